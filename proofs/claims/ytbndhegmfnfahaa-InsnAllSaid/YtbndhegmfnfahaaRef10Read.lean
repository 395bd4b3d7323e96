/- The reference's Read. -/
import Derived.Test.YtbndhegmfnfahaaInsnMath
import Derived.Test.YtbndhegmfnfahaaRef10G
namespace Go.Proofs.Ytbndhegmfnfahaa
open Go.RowKit
set_option linter.unusedVariables false

set_option maxRecDepth 100000 in
set_option maxHeartbeats 1000000 in
theorem refRead_few (s : ByteArray) (w : World) (hs : s.size ≤ 32768) :
    Calls Try.prog 53 #[.string s] w (ReadPost s w) := by
  obtain ⟨i0, hinf, hz0, hz1, hz2⟩ := info_parts infoInsn
  obtain ⟨n, hn⟩ : ∃ n, n = s.size / 8 := ⟨_, rfl⟩
  have hE : insReadE s = 0 ↔ (s.size = 8 * n ∧ insGood s n) := by
    constructor
    · intro h
      obtain ⟨_, h1, h2⟩ := insReadE_zero h
      exact ⟨by omega, by rw [hn]; exact h2⟩
    · rintro ⟨h1, h2⟩
      unfold insReadE
      rw [if_neg (by omega), if_pos (by omega), ← hn, if_pos h2]
  have hE5 : insReadE s ≠ 0 → insReadE s = 50 := by
    intro h
    rcases readE_cases s with h1 | ⟨h1, _⟩ | ⟨h1, _⟩
    · exact absurd h1 h
    · unfold insReadE at h1
      rw [if_neg (by omega)] at h1
      split at h1
      · split at h1 <;> cases h1
      · cases h1
    · exact h1
  have hL : insReadE s = 0 → insReadL s = insRow s n := fun h => by
    unfold insReadL
    rw [if_pos h, ← hn]
  have hN : insReadE s ≠ 0 → insReadL s = [] := fun h => by unfold insReadL; rw [if_neg h]
  have hn3 : 8 * n ≤ s.size := by omega
  have hn4 : s.size < 8 * n + 8 := by omega
  have HE := Lib.hid hE; have HE5 := Lib.hid hE5; have HL := Lib.hid hL; have HN := Lib.hid hN
  have hs1 : (s.size : Int) ≤ 32768 := by omega
  have hn1 : 8 * (n : Int) ≤ s.size := by omega
  have hn2 : (s.size : Int) < 8 * n + 8 := by omega
  clear hE hE5 hL hN hn hs
  go_enter Try.func53, Try.ntmps53
  go_wp2_with fail
  go_loopw [4, 5] (fun v c wr => ∃ k : Nat, k ≤ n ∧ c = .int .i64 (8 * (k : Int)) ∧ insGood s k ∧ OwnIns wr w.heap.size v (insRow s k) ∧ Below w.heap.size w wr) (fun _ c _ => s.size - (intOf c).toNat)
  case atStart => exact ⟨0, by omega, rfl, fun j hj => by omega, World.ownsRow_made (size := 4) w #[] 0 (Nat.le_refl _) (by unfold maxLen; omega) rfl, (Below.refl _ _).alloc (Nat.le_refl _) _⟩
  case round =>
    obtain ⟨k, hk, rfl, hgood, hown, hwr⟩ := hrel
    have HG := Lib.hid hgood
    have HO := Lib.hid hown
    clear hgood hown
    by_cases hlt : k < n
    · have hget := fun u => refGet_any (insChunk s k) u
      have hpush : insCells (insRow s (k + 1)) = insCells (insRow s k) ++ (insGetI (insChunk s k)).cells := insCells_snoc s k
      have hEB : insGetE (insChunk s k) = if insGetB (insChunk s k) then 0 else 50 := rfl
      obtain ⟨x, ex⟩ : ∃ x, x = insGetI (insChunk s k) := ⟨_, rfl⟩
      obtain ⟨E, eE⟩ : ∃ E, E = insGetE (insChunk s k) := ⟨_, rfl⟩
      rw [← ex, ← eE] at hget
      rw [← ex] at hpush
      rw [← eE] at hEB
      obtain ⟨xc, xt, xf, xk⟩ := x
      have hget2 : ∀ u, Calls Try.prog 47 #[.string (s.extract (8 * k) (8 * k + 8))] u fun e w' => e = .returned (.tuple #[.agg #[.int .i64 xc, .int .i64 xt, .int .i64 xf, .int .u32 xk], .int .i64 E]) ∧ Below u.heap.size u w' := hget
      have HGET := Lib.hid hget2; have HP := Lib.hid hpush; have HEB := Lib.hid hEB
      clear hget hget2 hpush hEB ex eE
      go_wp2_with fail
      refine (HGET.out _).mono ?_
      rintro e w1 ⟨rfl, hb1⟩
      have hw1 := hwr.trans (hb1.mono hwr.size)
      have hown := HO.out
      unfold OwnIns at hown
      rw [insRow_len] at hown
      have hown1 := hown.kept (w' := w1) (row := none) ⟨hb1.os, hb1.tape, hb1.output, hb1.size, fun i hi _ => hb1.block i hi⟩ (Classical.em _)
      clear hown hb1 hwr HO HGET
      have hEB := HEB.out
      cases hB : insGetB (insChunk s k)
      · rw [hB] at hEB
        obtain rfl : E = 50 := hEB
        have he : insReadE s = 50 := by
          refine HE5.out (fun h => ?_)
          have := (HE.out.1 h).2 k hlt
          rw [hB] at this; cases this
        have hl : insReadL s = [] := HN.out (by rw [he]; decide)
        have HE2 := Lib.hid he; have HL2 := Lib.hid hl
        clear he hl hB HEB hown1
        go_wp2_with fail
        go_ret2
        exact ⟨_, by rw [HE2.out]; rfl, by rw [HL2.out]; exact World.ownsRow_nil _ _ _ _, hw1.alloc hw1.size _⟩
      · rw [hB] at hEB
        obtain rfl : E = 0 := hEB
        have HBK := Lib.hid hB
        have hown2 := hown1.alloc (.cells #[.int .i64 xc, .int .i64 xt, .int .i64 xf, .int .u32 xk] 55)
        have hw2 := hw1.alloc hw1.size (.cells #[.int .i64 xc, .int .i64 xt, .int .i64 xf, .int .u32 xk] 55)
        have hk2 : (k : Int) ≤ 4096 := by omega
        clear hB HEB hown1 hw1
        go_wp2_with (first | (at_builtin; go_must (refine wpList_push _ _ 61 55 hown2 hw2 (Nat.le_refl _) Try.underlying61 hinf hz0 hz1 hz2 rfl (by decide) rfl rfl rfl (by rw [World.size_alloc]; rfl) rfl ?c1 ?c2 ?_)))
        case c1 => intro u hu; simp at hu; rcases hu with rfl | rfl | rfl | rfl <;> rfl
        case c2 => omega
        intro v' w3 hown3 hb3
        clear hown2 hw2
        have HO3 := Lib.hid hown3
        clear hown3
        go_wp2_with fail
        go_roundw
        case rel =>
          refine ⟨k + 1, by omega, by go_num, ?_, ?_, hb3⟩
          · intro j hj
            by_cases hjk : j < k
            · exact HG.out j hjk
            · obtain rfl : j = k := by omega
              exact HBK.out
          · unfold OwnIns
            rw [HP.out, insRow_len]
            exact HO3.out
        case measure => simp [intOf]; omega
    · obtain rfl : k = n := by omega
      by_cases hz : s.size = 8 * k
      · have he : insReadE s = 0 := HE.out.2 ⟨hz, HG.out⟩
        have hzI : (s.size : Int) ≤ 8 * k := by omega
        clear hz
        have HZ0 := Lib.hid he
        clear he
        go_wp2_with fail
        go_ret2
        refine ⟨_, by rw [HZ0.out]; rfl, ?_, hwr⟩
        rw [HL.out HZ0.out]
        exact HO.out
      · have he : insReadE s ≠ 0 := fun h => hz (HE.out.1 h).1
        have he5 := HE5.out he
        have hl := HN.out he
        have hzI : 8 * (k : Int) < s.size := by omega
        have HZ0 := Lib.hid he5; have HL0 := Lib.hid hl
        clear hz he he5 hl
        go_wp2_with fail
        go_ret2
        exact ⟨_, by rw [HZ0.out]; rfl, by rw [HL0.out]; exact World.ownsRow_nil _ _ _ _, hwr⟩

theorem refRead_any (s : ByteArray) (w : World) (hs : s.size ≤ 9223372036854775807) : Calls Try.prog 53 #[.string s] w (ReadPost s w) := by
  by_cases h1 : s.size ≤ 32768
  · exact refRead_few s w h1
  · have he : insReadE s = 2 := by unfold insReadE; rw [if_pos (by omega)]
    have hl : insReadL s = [] := by unfold insReadL; rw [he]; rfl
    have hs1 : (32768 : Int) < s.size := by omega
    have HE := Lib.hid he; have HL := Lib.hid hl
    clear he hl h1
    go_enter Try.func53, Try.ntmps53
    go_wp2_with fail
    go_ret2
    exact ⟨_, by rw [HE.out]; rfl, by rw [HL.out]; exact World.ownsRow_nil _ _ _ _, Below.refl _ _⟩
end Go.Proofs.Ytbndhegmfnfahaa
