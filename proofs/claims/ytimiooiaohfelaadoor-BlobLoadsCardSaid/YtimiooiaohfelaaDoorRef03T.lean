/- The reference: what a sector tells. -/
import Derived.Test.YtimiooiaohfelaaDoorDiskW
namespace Go.Proofs.YtimiooiaohfelaaDoor
open Go.RowKit
set_option linter.unusedVariables false

set_option maxRecDepth 100000 in
theorem refTells_any (v : Value) (d : Dsk) (n : Nat) (w : World) (h : IsDisk w v d) (hn : n < d.secs.length) :
    Calls Tryd.prog 34 #[v, .int .i64 n] w fun e w' => e = .returned (.string (tells d n)) ∧ Below w.heap.size w w' := by
  obtain ⟨a, cap, a', cap', rfl, hc1, hc2, hc1', hc2'⟩ := h.form
  have hs := strs_at h.secs; have hp := wrts_at h.pend
  generalize hm : d.secs.length = m at *
  generalize hk : d.pend.length = k at *
  have hkI : (k : Int) ≤ 9223372036854775807 := by omega
  have hnI : (n : Int) < m := by omega
  have hmI : (m : Int) ≤ 9223372036854775807 := by omega
  obtain ⟨g, off, rfl, hg, hat⟩ := hs.resolve_left (by omega)
  have c0 := hat n hn
  obtain ⟨Z, hZ⟩ : ∃ Z, d.secs.getD n ByteArray.empty = Z := ⟨_, rfl⟩
  rw [hZ] at c0
  have HP := Lib.hid hp; have HK := Lib.hid hk
  have c0' := fun o : Obj => (World.cell?_of_block (a := ⟨g, off + n, none⟩) (Below.heap_alloc w o g hg)).trans c0
  clear hat hp h hm hk c0
  go_enter Tryd.func34, Tryd.ntmps34
  go_wp2_with fail
  have hb1 := (Below.refl _ w).alloc (Nat.le_refl _) (.cells #[.slice (some ⟨g, off, none⟩) m cap, .slice a' k cap'] 25)
  obtain ⟨w1, hW1⟩ : ∃ w1, w.alloc (.cells #[.slice (some ⟨g, off, none⟩) m cap, .slice a' k cap'] 25) = w1 := ⟨_, rfl⟩
  rw [hW1] at hb1 ⊢
  clear hW1 c0'
  go_loopw [5, 16] (fun s z wr => ∃ t : Nat, t ≤ k ∧ z = .int .i64 t ∧ s = .string (tellsL d n t) ∧ Below w.heap.size w wr) (fun _ z _ => k - (intOf z).toNat)
  case atStart => exact ⟨0, by omega, rfl, by rw [show tellsL d n 0 = Z from hZ], hb1⟩
  case round =>
    obtain ⟨t, ht, rfl, rfl, hbw⟩ := hrel
    by_cases hlt : t < k
    · have htI : (t : Int) < k := by omega
      obtain ⟨gp, op, rfl, hgp, hcp⟩ := HP.out.resolve_left (by omega)
      obtain ⟨p0, p1⟩ := (hcp t hlt).below hbw hgp
      have hnx : tellsL d n (t + 1) = if (d.pend.getD t wrtZ).sector = n then (d.pend.getD t wrtZ).bytes else tellsL d n t := rfl
      obtain ⟨P, hP⟩ : ∃ P, d.pend.getD t wrtZ = P := ⟨_, rfl⟩
      rw [hP] at p0 p1 hnx
      generalize tellsL d n t = S at *
      have HNX := Lib.hid hnx
      have hb2 := hbw.alloc hbw.size (.cells #[.int .i64 P.sector, .string P.bytes] 49)
      clear hcp hP hnx hbw
      by_cases he : P.sector = (n : Nat)
      · rw [he] at p0
        rw [if_pos he] at HNX
        go_wp2_with fail
        go_roundw
        case rel => exact ⟨t + 1, by omega, by go_num, by rw [HNX.out], by rw [he] at hb2; exact hb2⟩
        case measure => simp [intOf]; omega
      · rw [if_neg he] at HNX
        have hse : (P.sector == (n : Int)) = false := by simpa using he
        go_wp2_with fail
        go_roundw
        case rel => exact ⟨t + 1, by omega, by go_num, by rw [HNX.out], hb2⟩
        case measure => simp [intOf]; omega
    · obtain rfl : t = k := by omega
      have ht : tells d n = tellsL d n t := by unfold tells; rw [HK.out]
      go_wp2_with fail
      go_ret
      exact ⟨by rw [ht]; rfl, hbw⟩
end Go.Proofs.YtimiooiaohfelaaDoor
