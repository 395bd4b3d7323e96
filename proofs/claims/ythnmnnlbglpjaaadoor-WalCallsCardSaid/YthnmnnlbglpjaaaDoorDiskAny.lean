/- What calls make of a disk with power, in whatever state. -/
import Derived.Test.YthnmnnlbglpjaaaDoorRefDo
namespace Go.Proofs.YthnmnnlbglpjaaaDoor
open Go.RowKit
set_option linter.unusedVariables false

structure Outc where
  dsk : Dsk
  left : Int
  code : Int
def wrO (d : Dsk) (left s : Int) (x : ByteArray) : Outc :=
  if readyE d left ≠ 0 then ⟨d, left, readyE d left⟩
  else if ¬ (0 ≤ s ∧ s < d.secs.length) then ⟨d, left, 20⟩
  else if 512 < (trimS x).size then ⟨d, left, 2⟩
  else ⟨writeD d s x, spentI left, 0⟩
def flO (d : Dsk) (left : Int) : Outc := if readyE d left ≠ 0 then ⟨d, left, readyE d left⟩ else ⟨flushD d, spentI left, 0⟩
def OutPost (o : Outc) (w : World) (e : Ending) (w' : World) : Prop := ∃ v', e = .returned (.tuple #[v', .int .i64 o.code]) ∧ IsPower w' v' o.dsk o.left ∧ Below w.heap.size w w'
theorem ready_zero {d : Dsk} {left : Int} (h : ¬ readyE d left ≠ 0) : left ≠ 0 ∧ rightD d = true := by
  unfold readyE at h
  by_cases h0 : left = 0
  · rw [if_pos h0] at h; exact absurd (by decide) h
  · rw [if_neg h0] at h
    by_cases hr : rightD d = true
    · exact ⟨h0, hr⟩
    · rw [if_neg hr] at h; exact absurd (by decide) h
theorem ready_is (d : Dsk) (left : Int) : readyE d left = 0 ∨ readyE d left = 1 ∨ readyE d left = 21 := by
  unfold readyE
  by_cases h0 : left = 0
  · rw [if_pos h0]; exact .inr (.inr rfl)
  · rw [if_neg h0]
    by_cases hr : rightD d = true
    · rw [if_pos hr]; exact .inl rfl
    · rw [if_neg hr]; exact .inr (.inl rfl)
theorem diskWrite_any (v : Value) (d : Dsk) (left s : Int) (x : ByteArray) (w : World) (h : IsPower w v d left) (hlo : -9223372036854775808 ≤ left) (hhi : left ≤ 9223372036854775807)
    (hxs : x.size ≤ 9223372036854775807) (hk4 : d.pend.length ≤ 1000) :
    Calls Tryd.prog 52 #[v, .int .i64 s, .string x] w (OutPost (wrO d left s x) w) := by
  by_cases h1 : readyE d left ≠ 0
  · rw [show wrO d left s x = ⟨d, left, readyE d left⟩ from if_pos h1]
    exact (diskWrite_no v d left s _ x w h hxs (.inl ⟨h1, rfl⟩)).mono fun e w' ⟨he, hb⟩ => ⟨v, he, h.below hb, hb⟩
  · obtain ⟨h0, hr⟩ := ready_zero h1
    have hz : readyE d left = 0 := Decidable.not_not.1 h1
    by_cases h2 : ¬ (0 ≤ s ∧ s < d.secs.length)
    · rw [show wrO d left s x = ⟨d, left, 20⟩ by unfold wrO; rw [if_neg h1, if_pos h2]]
      exact (diskWrite_no v d left s _ x w h hxs (.inr (.inl ⟨hz, h2, rfl⟩))).mono fun e w' ⟨he, hb⟩ => ⟨v, he, h.below hb, hb⟩
    · have h2' := Decidable.not_not.1 h2
      by_cases h3 : 512 < (trimS x).size
      · rw [show wrO d left s x = ⟨d, left, 2⟩ by unfold wrO; rw [if_neg h1, if_neg h2, if_pos h3]]
        exact (diskWrite_no v d left s _ x w h hxs (.inr (.inr ⟨hz, h2', h3, rfl⟩))).mono fun e w' ⟨he, hb⟩ => ⟨v, he, h.below hb, hb⟩
      · rw [show wrO d left s x = ⟨writeD d s x, spentI left, 0⟩ by unfold wrO; rw [if_neg h1, if_neg h2, if_neg h3]]
        exact (diskWrite_ok v d left s x w h h0 hlo hhi hr h2' (Nat.le_of_not_lt h3) hxs hk4).mono fun e w' ⟨v', he, hp, hb⟩ => ⟨v', he, hp, hb⟩
theorem diskFlush_any (v : Value) (d : Dsk) (left : Int) (w : World) (h : IsPower w v d left) (hlo : -9223372036854775808 ≤ left) (hhi : left ≤ 9223372036854775807) (hk4 : d.pend.length ≤ 1000) :
    Calls Tryd.prog 53 #[v] w (OutPost (flO d left) w) := by
  by_cases h1 : readyE d left ≠ 0
  · rw [show flO d left = ⟨d, left, readyE d left⟩ from if_pos h1]
    exact (diskFlush_no v d left w h h1).mono fun e w' ⟨he, hb⟩ => ⟨v, he, h.below hb, hb⟩
  · obtain ⟨h0, hr⟩ := ready_zero h1
    rw [show flO d left = ⟨flushD d, spentI left, 0⟩ from if_neg h1]
    exact (diskFlush_ok v d left w h h0 hlo hhi hr hk4).mono fun e w' ⟨v', he, hp, hb⟩ => ⟨v', he, hp, hb⟩
/-- what is told where the sector lies ahead of the first -/
theorem wrO_neg (d : Dsk) (left s : Int) (x : ByteArray) (hs : s < 0) : (wrO d left s x).dsk = d ∧ (wrO d left s x).left = left ∧
    ((readyE d left = 0 ∧ (wrO d left s x).code = 20 ∧ (wrO d left 0 x).code ≠ 21 ∧ (wrO d left 0 x).code ≠ 1) ∨ ((wrO d left s x).code = (wrO d left 0 x).code ∧ ((wrO d left s x).code = 21 ∨ (wrO d left s x).code = 1))) := by
  by_cases h1 : readyE d left ≠ 0
  · have e : ∀ t, wrO d left t x = ⟨d, left, readyE d left⟩ := fun t => if_pos h1
    rw [e, e]
    refine ⟨rfl, rfl, .inr ⟨rfl, ?_⟩⟩
    rcases ready_is d left with h | h | h
    · exact absurd h h1
    · exact .inr h
    · exact .inl h
  · have h2 : ¬ (0 ≤ s ∧ s < (d.secs.length : Int)) := by omega
    have e : wrO d left s x = ⟨d, left, 20⟩ := by unfold wrO; rw [if_neg h1, if_pos h2]
    rw [e]
    refine ⟨rfl, rfl, .inl ⟨Decidable.not_not.1 h1, rfl, ?_⟩⟩
    unfold wrO
    rw [if_neg h1]
    split
    · exact ⟨by simp, by simp⟩
    · split
      · exact ⟨by simp, by simp⟩
      · exact ⟨by simp, by simp⟩
theorem spent_in (left : Int) (hlo : -9223372036854775808 ≤ left) (hhi : left ≤ 9223372036854775807) : -9223372036854775808 ≤ spentI left ∧ spentI left ≤ 9223372036854775807 := by
  unfold spentI; split <;> omega
end Go.Proofs.YthnmnnlbglpjaaaDoor
