/- A new log may be. -/
import Derived.Test.YthnmnnlbglpjaaaGreatDoorPk4
namespace Go.Proofs.YthnmnnlbglpjaaaGreatDoor
open Go.RowKit
set_option linter.unusedVariables false

theorem newLg_right (k : Nat) (h : 64 ≤ k ∧ k ≤ 256) : rightL (newLg k) = true := by
  have hin : (64 : Int) ≤ k ∧ (k : Int) ≤ 256 := by omega
  unfold newLg
  rw [if_pos hin, Int.toNat_natCast, rightL_eq]
  have hfit : fitsB newS = true := by
    have h1 := super_lay 1
    have h2 : trimS newS = newS := trimS_twice _
    exact decide_eq_true ⟨by rw [← h2]; exact h1, h2⟩
  have h0 : fitsB ⟨#[]⟩ = true := decide_eq_true ⟨by show 0 ≤ 512; omega, by decide⟩
  have hall : ((List.replicate k (⟨#[]⟩ : ByteArray)).set 0 newS).all fitsB = true := List.all_eq_true.2 (fun x hx => by
    rcases List.mem_or_eq_of_mem_set hx with h | rfl
    · rw [List.eq_of_mem_replicate h]; exact h0
    · exact hfit)
  have hlen : ((List.replicate k (⟨#[]⟩ : ByteArray)).set 0 newS).length = k := by simp
  have e1 : rightD (Lg.dsk ⟨(List.replicate k ⟨#[]⟩).set 0 newS, [], -1, 1, 0, 0, []⟩) = true := by
    show (decide (1 ≤ ((List.replicate k (⟨#[]⟩ : ByteArray)).set 0 newS).length ∧ ((List.replicate k (⟨#[]⟩ : ByteArray)).set 0 newS).length ≤ 256) && ((List.replicate k (⟨#[]⟩ : ByteArray)).set 0 newS).all fitsB && [].all _) = true
    rw [hall, hlen, decide_eq_true (by omega)]; rfl
  rw [e1]
  show (true && decide (64 ≤ ((List.replicate k (⟨#[]⟩ : ByteArray)).set 0 newS).length) && numsB _ && true) = true
  rw [hlen, decide_eq_true h.1]
  rfl
end Go.Proofs.YthnmnnlbglpjaaaGreatDoor
