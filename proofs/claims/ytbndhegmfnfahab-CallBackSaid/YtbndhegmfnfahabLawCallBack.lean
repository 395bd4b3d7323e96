/- The walk of CallBack. -/
import Derived.Test.YtbndhegmfnfahabCallBackM
namespace Go.Proofs.Ytbndhegmfnfahab.lawCallBack
open Go.RowKit
set_option linter.unusedVariables false

set_option maxHeartbeats 1000000 in
set_option maxRecDepth 100000 in
theorem walk (v0 : Value) (c : Cal) (s : ByteArray) (n : Int) (name : ByteArray) (w : World) (w0 : IsCal w v0 c) (w1 : s.size ≤ maxLen) (w2 : (Lit.int .u32 n).wf = true) (w3 : name.size ≤ maxLen) :
    Calls Try.prog 7 #[v0, .string s, .int .u32 n, .string name] w fun e w' => e = .returned (.bool true) ∧ Below w.heap.size w w' := by
  have h2 : 0 ≤ n ∧ n ≤ 4294967295 := by simpa [Lit.wf, IntKind.min, IntKind.max, IntKind.signed, IntKind.bits] using w2
  obtain ⟨n0, n1⟩ := h2
  obtain ⟨rfl, hc⟩ := w0
  clear w1 w2 w3
  have HP := Lib.hid (fun u => callPack_any c u hc)
  have HU := Lib.hid (fun u => by have := callUnpack_ok (c.recB 6) u (by have := c.recB_size 6 (by have := hc.2.2.2.1; omega); omega); rw [unp_rec c hc] at this; exact this)
  have HZ := Lib.hid (c.recB_size 6 (by have := hc.2.2.2.1; omega))
  obtain ⟨h1, h2, h3, h4, h5⟩ := hc
  obtain ⟨nr, arch, ip, args⟩ := c
  dsimp only at h1 h2 h3 h4 h5
  obtain ⟨a0, a1, a2, a3, a4, a5, rfl⟩ : ∃ a0 a1 a2 a3 a4 a5, args = [a0, a1, a2, a3, a4, a5] := by
    match args, h4 with
    | [a0, a1, a2, a3, a4, a5], _ => exact ⟨a0, a1, a2, a3, a4, a5, rfl⟩
  clear h4 h5
  generalize Cal.recB ⟨nr, arch, ip, [a0, a1, a2, a3, a4, a5]⟩ 6 = R at *
  show Calls _ _ #[.agg #[.int .u32 nr, .int .u32 arch, .int .u64 ip, .int .u64 a0, .int .u64 a1, .int .u64 a2, .int .u64 a3, .int .u64 a4, .int .u64 a5], _, _, _] _ _
  replace HP : Hid (∀ u, Calls Try.prog 19 #[.agg #[.int .u32 nr, .int .u32 arch, .int .u64 ip, .int .u64 a0, .int .u64 a1, .int .u64 a2, .int .u64 a3, .int .u64 a4, .int .u64 a5]] u fun e w' => e = .returned (.string R) ∧ Below u.heap.size u w') := HP
  replace HU : Hid (∀ u, Calls Try.prog 16 #[.string R] u fun e w' => e = .returned (.tuple #[.agg #[.int .u32 nr, .int .u32 arch, .int .u64 ip, .int .u64 a0, .int .u64 a1, .int .u64 a2, .int .u64 a3, .int .u64 a4, .int .u64 a5], .int .i64 0]) ∧ Below u.heap.size u w') := HU
  have nI : (nr : Int) ≤ 4294967295 := by omega
  have aI : (arch : Int) ≤ 4294967295 := by omega
  have iI : (ip : Int) ≤ 18446744073709551615 := by omega
  clear h1 h2 h3
  go_enter Try.func7, Try.ntmps7
  go_wp2_with fail
  generalize hW : w.alloc (.cells #[.int .u32 nr, .int .u32 arch, .int .u64 ip, .int .u64 a0, .int .u64 a1, .int .u64 a2, .int .u64 a3, .int .u64 a4, .int .u64 a5] 38) = W
  have hblk : W.heap[w.heap.size]? = some (.cells #[.int .u32 nr, .int .u32 arch, .int .u64 ip, .int .u64 a0, .int .u64 a1, .int .u64 a2, .int .u64 a3, .int .u64 a4, .int .u64 a5] 38 (0, 0)) := by rw [← hW]; exact heap_alloc_new w _
  have hbel : Below w.heap.size w W := by rw [← hW]; exact (Below.refl _ _).alloc (Nat.le_refl _) _
  clear hW
  have HB := Lib.hid hblk
  clear hblk
  refine (HP.out _).mono ?_
  rintro e w1 ⟨rfl, hz1⟩
  go_wp2_with fail
  refine (keep hz1 (HU.out _)).mono ?_
  rintro e w2 ⟨rfl, hz2⟩
  clear hz1
  have p0 := fun o => below_cell (v := .int .u32 (nr : Nat)) (hz2.alloc hz2.size o) HB.out 0 rfl
  have p1 := fun o => below_cell (v := .int .u32 (arch : Nat)) (hz2.alloc hz2.size o) HB.out 1 rfl
  have p2 := fun o => below_cell (v := .int .u64 (ip : Nat)) (hz2.alloc hz2.size o) HB.out 2 rfl
  have p3 := fun o => below_cell (v := .int .u64 (a0 : Nat)) (hz2.alloc hz2.size o) HB.out 3 rfl
  have p4 := fun o => below_cell (v := .int .u64 (a1 : Nat)) (hz2.alloc hz2.size o) HB.out 4 rfl
  have p5 := fun o => below_cell (v := .int .u64 (a2 : Nat)) (hz2.alloc hz2.size o) HB.out 5 rfl
  have p6 := fun o => below_cell (v := .int .u64 (a3 : Nat)) (hz2.alloc hz2.size o) HB.out 6 rfl
  have p7 := fun o => below_cell (v := .int .u64 (a4 : Nat)) (hz2.alloc hz2.size o) HB.out 7 rfl
  have p8 := fun o => below_cell (v := .int .u64 (a5 : Nat)) (hz2.alloc hz2.size o) HB.out 8 rfl
  have hEq := fun u => eqArr6 (a0 : Nat) (a1 : Nat) (a2 : Nat) (a3 : Nat) (a4 : Nat) (a5 : Nat) u
  go_wp2_with fail
  refine (keep (hz2.alloc hz2.size _) (HP.out _)).mono ?_
  rintro e w3 ⟨rfl, hz3⟩
  clear hz2 p0 p1 p2 p3 p4 p5 p6 p7 p8 hEq
  have hR : (R.size : Int) = 64 := by have := HZ.out; omega
  go_wp2_with fail
  have hX := callUnpack_any s w3
  have hY := unpC_ok s
  have hV : unpE s = 0 ∧ (unpC s).recB 6 = s ∨ unpE s = 52 := by
    unfold unpE unpC
    by_cases h : s.size = 64
    · rw [if_pos h, if_pos h]; exact .inl ⟨rfl, rec_unp s h⟩
    · rw [if_neg h]; exact .inr rfl
  have hPY := fun u => callPack_any (unpC s) u hY
  generalize unpE s = E at *
  generalize unpC s = y at *
  obtain ⟨y0, y1, y2, yargs⟩ := y
  obtain ⟨k1, k2, k3, k4, k5⟩ := hY
  dsimp only at k1 k2 k3 k4 k5
  obtain ⟨b0, b1, b2, b3, b4, b5, rfl⟩ : ∃ a0 a1 a2 a3 a4 a5, yargs = [a0, a1, a2, a3, a4, a5] := by
    match yargs, k4 with
    | [a0, a1, a2, a3, a4, a5], _ => exact ⟨a0, a1, a2, a3, a4, a5, rfl⟩
  clear k4 k5
  have g1 : (y0 : Int) ≤ 4294967295 := by omega
  have g2 : (y1 : Int) ≤ 4294967295 := by omega
  have g3 : (y2 : Int) ≤ 18446744073709551615 := by omega
  clear k1 k2 k3
  generalize Cal.recB ⟨y0, y1, y2, [b0, b1, b2, b3, b4, b5]⟩ 6 = Y at *
  replace hX : Calls Try.prog 16 #[.string s] w3 fun e w' => e = .returned (.tuple #[.agg #[.int .u32 y0, .int .u32 y1, .int .u64 y2, .int .u64 b0, .int .u64 b1, .int .u64 b2, .int .u64 b3, .int .u64 b4, .int .u64 b5], .int .i64 E]) ∧ Below w3.heap.size w3 w' := hX
  replace hPY : ∀ u, Calls Try.prog 19 #[.agg #[.int .u32 y0, .int .u32 y1, .int .u64 y2, .int .u64 b0, .int .u64 b1, .int .u64 b2, .int .u64 b3, .int .u64 b4, .int .u64 b5]] u fun e w' => e = .returned (.string Y) ∧ Below u.heap.size u w' := hPY
  have HPY := Lib.hid hPY; have HV := Lib.hid hV
  clear hPY hV
  refine (keep hz3 hX).mono ?_
  rintro e w4 ⟨rfl, hz4⟩
  clear hX hz3
  go_upto_region 5 with fail
  go_cut [54] (fun b wx => b = .bool false ∧ Below W.heap.size W wx)
  case first =>
    have hV := HV.out
    clear HV
    rcases hV with ⟨rfl, rfl⟩ | rfl
    · go_wp2_with fail
      refine (keep (hz4.alloc hz4.size _) (HPY.out _)).mono ?_
      rintro e w5 ⟨rfl, hz5⟩
      go_wp2_with fail
      go_meet
      exact ⟨by simp, hz5⟩
    · go_wp2_with fail
      go_meet
      exact ⟨rfl, hz4.alloc hz4.size _⟩
  case rest =>
  obtain ⟨rfl, hzx⟩ := hcut
  rename_i wx
  clear HV HPY hz4 g1 g2 g3 HU HP
  have pA := below_cell (v := .int .u32 (arch : Nat)) hzx HB.out 1 rfl
  go_wp2_with fail
  have hst : (World.alloc _ (.cells #[.int .u32 3221225534, .int .u32 3221225655, .int .u32 (arch : Nat)] 30)).heap[_]? = _ := heap_alloc_new wc (.cells #[.int .u32 3221225534, .int .u32 3221225655, .int .u32 (arch : Nat)] 30)
  have hbs := hzx.alloc hzx.size (.cells #[.int .u32 3221225534, .int .u32 3221225655, .int .u32 (arch : Nat)] 30)
  clear pA
  obtain ⟨g, eg⟩ : ∃ g, g = wc.heap.size := ⟨_, rfl⟩
  have hg : w.heap.size ≤ g := by have := hzx.size; have := hbel.size; omega
  rw [← eg] at hst ⊢
  have HG := Lib.hid eg
  clear eg hzx
  go_loopw [59] (fun c wr => ∃ i : Nat, i ≤ 3 ∧ c = .int .i64 i ∧ wr.heap[g]? = some (.cells #[.int .u32 3221225534, .int .u32 3221225655, .int .u32 (arch : Nat)] 30 (0, 0)) ∧ Below W.heap.size W wr) (fun c _ => 3 - (intOf c).toNat)
  case atStart => exact ⟨0, by omega, rfl, hst, hbs⟩
  case round =>
    clear hst hbs
    obtain ⟨i, hi, rfl, hblk, hwr⟩ := hrel
    by_cases hlt : i < 3
    · obtain ⟨ar, hc, ar0, ar1⟩ : ∃ ar : Int, wr.cell? ⟨g, i, none⟩ = some (.int .u32 ar) ∧ 0 ≤ ar ∧ ar ≤ 4294967295 := by
        rw [cell_of_row _ _ i _ _ _ hblk]
        have : i = 0 ∨ i = 1 ∨ i = 2 := by omega
        rcases this with rfl | rfl | rfl
        · exact ⟨3221225534, rfl, by omega, by omega⟩
        · exact ⟨3221225655, rfl, by omega, by omega⟩
        · exact ⟨arch, rfl, by omega, by omega⟩
      have HK := Lib.hid hblk
      have hb0 := Below.refl wr.heap.size wr
      have HNN := Lib.hid (fun t => name_nr ar n (t := t))
      have HLE := Lib.hid (fun x => nrOf_le (a := ar) (s := name) (x := x))
      have HRN := Lib.hid (fun x => nr_name ar (s := name) (x := x))
      clear hblk
      go_wp2_with fail
      refine (keep hb0 (callName_any ar n _ ar0 ar1 n0 n1)).mono ?_
      rintro e w6 ⟨rfl, hb1⟩
      clear hb0
      generalize nameOf (tabOf ar) n = p at *
      rcases p with _ | t
      all_goals first
        | (obtain ⟨x, hx, hxn⟩ := HNN.out t rfl
           have hcn := callNr_any ar t w6 ar0 ar1
           rw [hx] at hcn
           simp only [Option.getD_some, Option.isSome_some] at hcn ⊢
           have hxb : (x : Int) ≤ 4294967295 := by omega
           rw [hxn] at hcn
           clear hx hxn
           have HCN := Lib.hid hcn
           clear hcn
           go_wp2_with fail
           refine (keep hb1 HCN.out).mono ?_
           rintro e w7 ⟨rfl, hbq⟩
           clear hb1 HCN
           go_upto_region 15 with fail)
        | (have hbq := hb1
           clear hb1
           go_upto_region 15 with fail)
      all_goals
        clear HNN
        go_wp2_with fail
        refine (keep hbq (callNr_any ar name _ ar0 ar1)).mono ?_
        rintro e w8 ⟨rfl, hb8⟩
        clear hbq
        generalize nrOf (tabOf ar) name = p at *
        rcases p with _ | x
        · go_wp2_with fail
          go_roundw
          case rel => exact ⟨i + 1, by omega, by go_num, by rw [hb8.block _ (lt_of_block HK.out)]; exact HK.out, hwr.trans (hb8.mono hwr.size)⟩
          case measure => simp [intOf]; omega
        · have hx := HRN.out x rfl
          obtain ⟨x1, x2⟩ : (0 : Int) ≤ x ∧ (x : Int) ≤ 4294967295 := by have := HLE.out x rfl; omega
          have hcn := fun u => callName_any ar (x : Int) u ar0 ar1 x1 x2
          rw [hx] at hcn
          simp only [Option.getD_some, Option.isSome_some] at hcn ⊢
          have HCN := Lib.hid hcn
          clear hcn hx
          go_wp2_with fail
          refine (keep hb8 (HCN.out _)).mono ?_
          rintro e w9 ⟨rfl, hb9⟩
          clear hb8 HCN
          go_wp2_with fail
          go_roundw
          case rel => exact ⟨i + 1, by omega, by go_num, by rw [hb9.block _ (lt_of_block HK.out)]; exact HK.out, hwr.trans (hb9.mono hwr.size)⟩
          case measure => simp [intOf]; omega
    · obtain rfl : i = 3 := by omega
      go_wp2_with fail
      refine (keep hwr (callAlive _)).mono ?_
      rintro e w7 ⟨rfl, hb7⟩
      go_wp2_with fail
      go_ret
      exact ⟨rfl, hbel.trans (hb7.mono hbel.size)⟩
end Go.Proofs.Ytbndhegmfnfahab.lawCallBack
