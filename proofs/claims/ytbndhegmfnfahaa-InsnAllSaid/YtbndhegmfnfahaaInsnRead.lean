/- insn.Read. -/
import Derived.Test.YtbndhegmfnfahaaInsnAll
import Derived.Test.YtbndhegmfnfahaaInsnGet
import Derived.Outline
namespace Go.Proofs.Ytbndhegmfnfahaa
open Go.RowKit
set_option linter.unusedVariables false

theorem infoInsn : (Try.prog.info? 55).map (fun i => (i.zero, i.size, i.bytes)) = some (some (.agg #[.int .i64 0, .int .i64 0, .int .i64 0, .int .u32 0]), 4, 32) := by kernel_rfl
def insChunk (s : ByteArray) (k : Nat) : ByteArray := s.extract (8 * k) (8 * k + 8)
def insRow (s : ByteArray) (k : Nat) : List Ins := (List.range k).map fun j => insGetI (insChunk s j)
def insGood (s : ByteArray) (k : Nat) : Prop := ∀ j, j < k → insGetB (insChunk s j) = true
instance (s : ByteArray) (k : Nat) : Decidable (insGood s k) := by unfold insGood; exact Nat.decidableBallLT k _
def insReadE (s : ByteArray) : Int := if 32768 < s.size then 2 else if s.size % 8 = 0 then (if insGood s (s.size / 8) then 0 else 50) else 50
def insReadL (s : ByteArray) : List Ins := if insReadE s = 0 then insRow s (s.size / 8) else []
def insCells (l : List Ins) : List Value := l.flatMap Ins.cells
theorem insCells_len (l : List Ins) : (insCells l).length = l.length * 4 := by
  induction l with
  | nil => rfl
  | cons a l ih => rw [insCells, List.flatMap_cons, List.length_append, ← insCells, ih, List.length_cons]; simp [Ins.cells]; omega
theorem insRow_snoc (s : ByteArray) (k : Nat) : insRow s (k + 1) = insRow s k ++ [insGetI (insChunk s k)] := by
  rw [insRow, List.range_succ, List.map_append]; rfl
theorem insCells_snoc (s : ByteArray) (k : Nat) : insCells (insRow s (k + 1)) = insCells (insRow s k) ++ (insGetI (insChunk s k)).cells := by
  rw [insRow_snoc, insCells, List.flatMap_append]; simp [insCells]
theorem insRow_len (s : ByteArray) (k : Nat) : (insRow s k).length = k := by simp [insRow]
/-- a slice of the call's own that holds these instructions -/
def OwnIns (w : World) (base : Nat) (v : Value) (l : List Ins) : Prop := w.ownsRow base 55 4 v l.length (insCells l)
def ReadPost (s : ByteArray) (w : World) (e : Ending) (w' : World) : Prop :=
  ∃ v, e = .returned (.tuple #[v, .int .i64 (insReadE s)]) ∧ OwnIns w' w.heap.size v (insReadL s) ∧ Below w.heap.size w w'

set_option maxRecDepth 100000 in
set_option maxHeartbeats 1000000 in
theorem insnRead_few (s : ByteArray) (w : World) (hs : s.size ≤ 32768) (h8 : s.size % 8 = 0) :
    Calls Try.prog 52 #[.string s] w (ReadPost s w) := by
  obtain ⟨i0, hinf, hz0, hz1, hz2⟩ := info_parts infoInsn
  obtain ⟨n, hn⟩ : ∃ n, s.size = 8 * n := ⟨s.size / 8, by omega⟩
  have hE : insReadE s = if insGood s n then 0 else 50 := by
    unfold insReadE
    rw [if_neg (by omega), if_pos h8, show s.size / 8 = n from by omega]
  have hL : insReadE s = 0 → insReadL s = insRow s n := fun h => by
    unfold insReadL
    rw [if_pos h, show s.size / 8 = n from by omega]
  have hN : insReadE s ≠ 0 → insReadL s = [] := fun h => by unfold insReadL; rw [if_neg h]
  have HE := Lib.hid hE; have HL := Lib.hid hL; have HN := Lib.hid hN; have HS := Lib.hid hn
  have hs1 : (s.size : Int) ≤ 32768 := by omega
  have hm : ((s.size : Int) % 8 != 0) = false := by rw [bne_eq_false_iff_eq]; omega
  have hn1 : 8 * (n : Int) ≤ s.size := by omega
  have hn2 : (s.size : Int) ≤ 8 * n := by omega
  clear hE hL hN hn hs h8
  go_enter Try.func52, Try.ntmps52
  go_wp2_with fail
  go_loopw [4, 5] (fun v c wr => ∃ k : Nat, k ≤ n ∧ c = .int .i64 (8 * (k : Int)) ∧ insGood s k ∧ OwnIns wr w.heap.size v (insRow s k) ∧ Below w.heap.size w wr) (fun _ c _ => s.size - (intOf c).toNat)
  case atStart => exact ⟨0, by omega, rfl, fun j hj => by omega, World.ownsRow_nil _ _ _ _, Below.refl _ _⟩
  case round =>
    obtain ⟨k, hk, rfl, hgood, hown, hwr⟩ := hrel
    have HG := Lib.hid hgood
    have HO := Lib.hid hown
    clear hgood hown
    by_cases hlt : k < n
    · have hget := fun u => insnGet_any (insChunk s k) u
      have hpush : insCells (insRow s (k + 1)) = insCells (insRow s k) ++ (insGetI (insChunk s k)).cells := insCells_snoc s k
      have hEB : insGetE (insChunk s k) = if insGetB (insChunk s k) then 0 else 50 := rfl
      obtain ⟨x, ex⟩ : ∃ x, x = insGetI (insChunk s k) := ⟨_, rfl⟩
      obtain ⟨E, eE⟩ : ∃ E, E = insGetE (insChunk s k) := ⟨_, rfl⟩
      rw [← ex, ← eE] at hget
      rw [← ex] at hpush
      rw [← eE] at hEB
      obtain ⟨xc, xt, xf, xk⟩ := x
      have hget2 : ∀ u, Calls Try.prog 46 #[.string (s.extract (8 * k) (8 * k + 8))] u fun e w' => e = .returned (.tuple #[.agg #[.int .i64 xc, .int .i64 xt, .int .i64 xf, .int .u32 xk], .int .i64 E]) ∧ Below u.heap.size u w' := hget
      have HGET := Lib.hid hget2; have HP := Lib.hid hpush; have HEB := Lib.hid hEB
      clear hget hget2 hpush hEB ex eE
      go_wp2_with fail
      refine (HGET.out _).mono ?_
      rintro e w1 ⟨rfl, hb1⟩
      have hw1 := hwr.trans (hb1.mono hwr.size)
      have hown := HO.out
      unfold OwnIns at hown
      rw [insRow_len] at hown
      have hown1 := hown.kept (w' := w1) (row := none) ⟨hb1.os, hb1.tape, hb1.output, hb1.size, fun i hi _ => hb1.block i hi⟩ (Classical.em _)
      clear hown hb1 hwr HO HGET
      have hEB := HEB.out
      cases hB : insGetB (insChunk s k)
      · rw [hB] at hEB
        obtain rfl : E = 50 := hEB
        have he : insReadE s = 50 := by
          rw [HE.out, if_neg (fun h => by have := h k hlt; rw [hB] at this; cases this)]
        have hl : insReadL s = [] := HN.out (by rw [he]; decide)
        have HE2 := Lib.hid he; have HL2 := Lib.hid hl
        clear he hl hB HEB hown1
        go_wp2_with fail
        go_ret2
        exact ⟨_, by rw [HE2.out]; rfl, by rw [HL2.out]; exact World.ownsRow_nil _ _ _ _, hw1.alloc hw1.size _⟩
      · rw [hB] at hEB
        obtain rfl : E = 0 := hEB
        have HBK := Lib.hid hB
        have hown2 := hown1.alloc (.cells #[.int .i64 xc, .int .i64 xt, .int .i64 xf, .int .u32 xk] 55)
        have hw2 := hw1.alloc hw1.size (.cells #[.int .i64 xc, .int .i64 xt, .int .i64 xf, .int .u32 xk] 55)
        have hk2 : (k : Int) ≤ 4096 := by omega
        clear hB HEB hown1 hw1
        go_wp2_with (first | (at_builtin; go_must (refine wpList_push _ _ 61 55 hown2 hw2 (Nat.le_refl _) Try.underlying61 hinf hz0 hz1 hz2 rfl (by decide) rfl rfl rfl (by rw [World.size_alloc]; rfl) rfl ?c1 ?c2 ?_)))
        case c1 => intro u hu; simp at hu; rcases hu with rfl | rfl | rfl | rfl <;> rfl
        case c2 => omega
        intro v' w3 hown3 hb3
        clear hown2 hw2
        have HO3 := Lib.hid hown3
        clear hown3
        go_wp2_with fail
        go_roundw
        case rel =>
          refine ⟨k + 1, by omega, by go_num, ?_, ?_, hb3⟩
          · intro j hj
            by_cases hjk : j < k
            · exact HG.out j hjk
            · obtain rfl : j = k := by omega
              exact HBK.out
          · unfold OwnIns
            rw [HP.out, insRow_len]
            exact HO3.out
        case measure => simp [intOf]; omega
    · obtain rfl : k = n := by omega
      go_wp2_with fail
      go_ret2
      have he : insReadE s = 0 := by rw [HE.out, if_pos HG.out]
      refine ⟨_, by rw [he]; rfl, ?_, hwr⟩
      rw [HL.out he]
      exact HO.out

theorem insnRead_any (s : ByteArray) (w : World) (hs : s.size ≤ 9223372036854775807) : Calls Try.prog 52 #[.string s] w (ReadPost s w) := by
  by_cases h1 : s.size ≤ 32768
  · by_cases h8 : s.size % 8 = 0
    · exact insnRead_few s w h1 h8
    · have he : insReadE s = 50 := by unfold insReadE; rw [if_neg (by omega), if_neg h8]
      have hl : insReadL s = [] := by unfold insReadL; rw [he]; rfl
      have hs1 : (s.size : Int) ≤ 32768 := by omega
      have hm : ((s.size : Int) % 8 != 0) = true := by rw [bne_iff_ne]; omega
      have HE := Lib.hid he; have HL := Lib.hid hl
      clear he hl h8
      go_enter Try.func52, Try.ntmps52
      go_wp2_with fail
      go_ret2
      exact ⟨_, by rw [HE.out]; rfl, by rw [HL.out]; exact World.ownsRow_nil _ _ _ _, Below.refl _ _⟩
  · have he : insReadE s = 2 := by unfold insReadE; rw [if_pos (by omega)]
    have hl : insReadL s = [] := by unfold insReadL; rw [he]; rfl
    have hs1 : (32768 : Int) < s.size := by omega
    have HE := Lib.hid he; have HL := Lib.hid hl
    clear he hl h1
    go_enter Try.func52, Try.ntmps52
    go_wp2_with fail
    go_ret2
    exact ⟨_, by rw [HE.out]; rfl, by rw [HL.out]; exact World.ownsRow_nil _ _ _ _, Below.refl _ _⟩
end Go.Proofs.Ytbndhegmfnfahaa
