/- The walk of CallWords. -/
import Derived.Test.YtbndhegmfnfahabCallWord
import Derived.Test.YtbndhegmfnfahabCallLaw
import Derived.Lib.SmallJoins
namespace Go.Proofs.Ytbndhegmfnfahab.lawCallWords
open Go.RowKit Go.Joins
set_option linter.unusedVariables false

set_option maxRecDepth 100000 in
set_option maxHeartbeats 1000000 in
theorem walk (v0 : Value) (c : Cal) (w : World) (w0 : IsCal w v0 c) :
    Calls Try.prog 9 #[v0] w fun e w' => e = .returned (.bool true) ∧ Below w.heap.size w w' := by
  obtain ⟨rfl, hc⟩ := w0
  have HP := Lib.hid (fun u => callPack_any c u hc)
  have HW := Lib.hid (c.word hc.2.2.2.1)
  have HA := Lib.hid (c.wordVals_all hc)
  have HL := Lib.hid (c.words_length hc.2.2.2.1)
  have HZ := Lib.hid (c.recB_size 6 (by have := hc.2.2.2.1; omega))
  obtain ⟨h1, h2, h3, h4, h5⟩ := hc
  obtain ⟨nr, arch, ip, args⟩ := c
  dsimp only at h1 h2 h3 h4 h5
  obtain ⟨a0, a1, a2, a3, a4, a5, rfl⟩ : ∃ a0 a1 a2 a3 a4 a5, args = [a0, a1, a2, a3, a4, a5] := by
    match args, h4 with
    | [a0, a1, a2, a3, a4, a5], _ => exact ⟨a0, a1, a2, a3, a4, a5, rfl⟩
  have H5 := Lib.hid h5
  clear h4 h5
  show Calls _ _ #[.agg #[.int .u32 nr, .int .u32 arch, .int .u64 ip, .int .u64 a0, .int .u64 a1, .int .u64 a2, .int .u64 a3, .int .u64 a4, .int .u64 a5]] _ _
  replace HP : Hid (∀ u, Calls Try.prog 19 #[.agg #[.int .u32 nr, .int .u32 arch, .int .u64 ip, .int .u64 a0, .int .u64 a1, .int .u64 a2, .int .u64 a3, .int .u64 a4, .int .u64 a5]] u fun e w' => e = .returned (.string (Cal.recB ⟨nr, arch, ip, [a0, a1, a2, a3, a4, a5]⟩ 6)) ∧ Below u.heap.size u w') := HP
  generalize hQ : Cal.mk nr arch ip [a0, a1, a2, a3, a4, a5] = c at *
  have HQ := Lib.hid hQ
  clear hQ
  have nI : (nr : Int) ≤ 4294967295 := by omega
  have aI : (arch : Int) ≤ 4294967295 := by omega
  have iI : (ip : Int) ≤ 18446744073709551615 := by omega
  clear h1 h2 h3
  generalize c.recB 6 = R at *
  go_enter Try.func9, Try.ntmps9
  go_wp2_with fail
  generalize hW : w.alloc (.cells #[.int .u32 nr, .int .u32 arch, .int .u64 ip, .int .u64 a0, .int .u64 a1, .int .u64 a2, .int .u64 a3, .int .u64 a4, .int .u64 a5] 38) = W
  have hblk : W.heap[w.heap.size]? = some (.cells #[.int .u32 nr, .int .u32 arch, .int .u64 ip, .int .u64 a0, .int .u64 a1, .int .u64 a2, .int .u64 a3, .int .u64 a4, .int .u64 a5] 38 (0, 0)) := by rw [← hW]; exact heap_alloc_new w _
  have hbel : Below w.heap.size w W := by rw [← hW]; exact (Below.refl _ _).alloc (Nat.le_refl _) _
  clear hW
  have HB := Lib.hid hblk
  clear hblk
  refine (HP.out _).mono ?_
  rintro e w1 ⟨rfl, hz⟩
  have hb1 : Below w.heap.size w w1 := hbel.trans (hz.mono hbel.size)
  have q0 := below_cell hz HB.out 0 rfl
  have q1 := below_cell hz HB.out 1 rfl
  have q2 := below_cell hz HB.out 2 rfl
  have p3 := fun o => below_cell (v := .int .u64 (a0 : Nat)) (hz.alloc hz.size o) HB.out 3 rfl
  have p4 := fun o => below_cell (v := .int .u64 (a1 : Nat)) (hz.alloc hz.size o) HB.out 4 rfl
  have p5 := fun o => below_cell (v := .int .u64 (a2 : Nat)) (hz.alloc hz.size o) HB.out 5 rfl
  have p6 := fun o => below_cell (v := .int .u64 (a3 : Nat)) (hz.alloc hz.size o) HB.out 6 rfl
  have p7 := fun o => below_cell (v := .int .u64 (a4 : Nat)) (hz.alloc hz.size o) HB.out 7 rfl
  have p8 := fun o => below_cell (v := .int .u64 (a5 : Nat)) (hz.alloc hz.size o) HB.out 8 rfl
  go_wp2_with fail
  have HS := Lib.hid c.wordVals_snoc
  have HN := Lib.hid c.wordVals_length
  have hst : (w1.alloc (.cells #[.int .u32 (nr : Int), .int .u32 (arch : Int), .int .u32 ((ip : Int) % 4294967296), .int .u32 ((ip : Int) / 4294967296)] 30)).ownsRow w.heap.size 30 1 (.slice (some ⟨w1.heap.size, 0, none⟩) 4 4) 4 (c.wordVals 0) := by
    have := World.ownsRow_lit (base := w.heap.size) (e := 30) (size := 1) w1 #[.int .u32 (nr : Int), .int .u32 (arch : Int), .int .u32 ((ip : Int) % 4294967296), .int .u32 ((ip : Int) / 4294967296)] 4 hb1.size (by unfold maxLen; omega) rfl
    rw [← HQ.out]
    exact this
  have hbs := hb1.alloc hb1.size (.cells #[.int .u32 (nr : Int), .int .u32 (arch : Int), .int .u32 ((ip : Int) % 4294967296), .int .u32 ((ip : Int) / 4294967296)] 30)
  clear q0 q1 q2 p3 p4 p5 p6 p7 p8 hz hb1 HB hbel HP nI aI iI
  obtain ⟨i0, hinf, hz0, hz1, hz2⟩ := info_parts infoU32
  go_loopw [4, 27] (fun s k wr => ∃ i : Nat, i ≤ 6 ∧ k = .int .i64 i ∧ wr.ownsRow w.heap.size 30 1 s (4 + 2 * i) (c.wordVals i) ∧ Below w.heap.size w wr) (fun _ k _ => 6 - (intOf k).toNat)
  case atStart => exact ⟨0, by omega, rfl, hst, hbs⟩
  case round =>
    clear hst hbs
    obtain ⟨i, hi, rfl, hown, hwr⟩ := hrel
    by_cases hlt : i < 6
    · have hx := fun u => idx6 a0 a1 a2 a3 a4 a5 i hlt u
      obtain ⟨x, ex⟩ : ∃ x, x = [a0, a1, a2, a3, a4, a5].getD i 0 := ⟨_, rfl⟩
      have hxb : x ≤ 18446744073709551615 := by
        have hg : [a0, a1, a2, a3, a4, a5].getD i 0 = [a0, a1, a2, a3, a4, a5][i]'(by simpa using hlt) := by simp [List.getD, hlt]
        rw [ex, hg]
        exact H5.out _ (List.getElem_mem _)
      have hsn : c.wordVals (i + 1) = c.wordVals i ++ wordV x := by
        rw [HS.out i (by rw [← HQ.out]; exact hlt), ← HQ.out, ex]
      rw [← ex] at hx
      have HE := Lib.hid hsn
      have hxI : (x : Int) ≤ 18446744073709551615 := by omega
      clear ex hsn hxb
      go_wp2_with (first | (at_builtin; go_must (refine wpList_pushes (m := 2) _ _ 45 30 hown hwr (Nat.le_refl _) Try.underlying45 hinf hz0 hz1 hz2 rfl (by decide) rfl rfl rfl rfl rfl ?c1 ?c2 ?_)))
      case c1 => intro u hu; simp at hu; rcases hu with rfl | rfl <;> rfl
      case c2 => omega
      intro v' w2 hown1 hbel1
      clear hown hwr
      go_wp2
      go_roundw
      case rel => exact ⟨i + 1, by omega, by go_num, by rw [HE.out]; exact hown1, hbel1⟩
      case measure => simp [intOf]; omega
    · obtain rfl : i = 6 := by omega
      rw [HA.out] at hown
      replace hown : wr.ownsRow w.heap.size 30 1 _ 16 _ := hown
      obtain ⟨g, cap, rfl⟩ := ownsRow_form hown (by omega)
      have hcell : ∀ j, j < 16 → wr.cell? ⟨g, j, none⟩ = some (.int .u32 ((c.words.getD j 0 % 4294967296 : Nat) : Int)) := by
        intro j hj
        have hl := HL.out
        rw [hown.cellAt j (by omega), List.getElem?_map]
        simp [List.getD, hl, hj]
      have HC := Lib.hid hcell
      clear hown hcell HA HS HN
      rw [show ((6 : Nat) : Int) = 6 from rfl]
      go_wp2_with fail
      go_loop [41] (fun k => ∃ i : Nat, i ≤ 16 ∧ k = .int .i64 i) (fun k => 16 - (intOf k).toNat)
      case atStart => exact ⟨0, by omega, rfl⟩
      case round =>
        obtain ⟨i, hi, rfl⟩ := hrel
        by_cases hlt : i < 16
        · have hc1 := HC.out i hlt
          have hv := vmWord_ok R i wr (by have := HZ.out; omega) hlt
          rw [HW.out i hlt, Int.natCast_mul] at hv
          have HV := Lib.hid hv
          have hxb : c.words.getD i 0 % 4294967296 ≤ 4294967295 := by omega
          clear hv
          generalize c.words.getD i 0 % 4294967296 = x at *
          go_wp2_with fail
          refine (HV.out).mono ?_
          rintro e w3 ⟨rfl, rfl⟩
          go_wp2_with fail
          go_round
          case rel => exact ⟨i + 1, by omega, by go_num⟩
          case measure => simp [intOf]; omega
        · obtain rfl : i = 16 := by omega
          go_wp2_with fail
          refine (keep hwr (callAlive wr)).mono ?_
          rintro e w3 ⟨rfl, hb3⟩
          go_wp2_with fail
          go_ret
          exact ⟨rfl, hb3⟩
end Go.Proofs.Ytbndhegmfnfahab.lawCallWords
