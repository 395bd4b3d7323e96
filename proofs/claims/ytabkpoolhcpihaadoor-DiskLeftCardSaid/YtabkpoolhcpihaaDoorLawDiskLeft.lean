/- The walk of DiskLeft. -/
import Derived.Test.YtabkpoolhcpihaaDoorDiskAny
import Derived.Outline
namespace Go.Proofs.YtabkpoolhcpihaaDoor.lawDiskLeft
open Go.RowKit
set_option linter.unusedVariables false

theorem wrO_on (d : Dsk) (left s : Int) (x : ByteArray) (h0 : left ≠ 0) (hr : rightD d = true) (hs : 0 ≤ s ∧ s < d.secs.length) (hx : (trimS x).size ≤ 512) : wrO d left s x = ⟨writeD d s x, spentI left, 0⟩ := by
  have : ¬ readyE d left ≠ 0 := by unfold readyE; rw [if_neg h0, if_pos hr]; decide
  unfold wrO; rw [if_neg this, if_neg (not_not_intro hs), if_neg (Nat.not_lt.2 hx)]
theorem wrO_off (d : Dsk) (s : Int) (x : ByteArray) : wrO d 0 s x = ⟨d, 0, 21⟩ := if_pos (show readyE d 0 ≠ 0 by unfold readyE; rw [if_pos rfl]; decide)
theorem flO_on (d : Dsk) (left : Int) (h0 : left ≠ 0) (hr : rightD d = true) : flO d left = ⟨flushD d, spentI left, 0⟩ := by
  have : ¬ readyE d left ≠ 0 := by unfold readyE; rw [if_neg h0, if_pos hr]; decide
  exact if_neg this
theorem flO_off (d : Dsk) : flO d 0 = ⟨d, 0, 21⟩ := if_pos (show readyE d 0 ≠ 0 by unfold readyE; rw [if_pos rfl]; decide)
theorem power_vals {w : World} {a a' : Option Addr} {n c n' c' : Nat} {x : Int} {d : Dsk} {left : Int} (h : IsPower w (.agg #[.slice a n c, .slice a' n' c', .int .i64 x]) d left) : x = left := by
  obtain ⟨_, _, e, _⟩ := h
  injection e with e
  have f2 := congrArg (fun z : Array Value => z[2]?) e
  simp at f2
  exact f2
theorem left_key (l i L : Nat) (hL : l - i = L) (d : Dsk) (r : Nat) (hr2 : r < 3) (hr : rightD d = true) (hlen : d.secs.length = 3) (hpend : d.pend.length ≤ i) :
    ∃ d1 d2 k, wrO d (L : Nat) (r : Nat) ⟨#[120]⟩ = ⟨d1, ((l - (i + 1) : Nat) : Int), k⟩ ∧ flO d (L : Nat) = ⟨d2, ((l - (i + 1) : Nat) : Int), k⟩ ∧
      (rightD d1 = true ∧ d1.secs.length = 3 ∧ d1.pend.length ≤ i + 1) ∧ (rightD d2 = true ∧ d2.secs.length = 3 ∧ d2.pend.length ≤ i + 1) ∧
      ((k = 0 ∧ i < l) ∨ (k = 21 ∧ ¬ i < l ∧ d1 = d ∧ d2 = d ∧ l - (i + 1) = 0 ∧ L = 0)) := by
  by_cases h : i < l
  · have hx : (trimS ⟨#[120]⟩).size ≤ 512 := Nat.le_trans (trimS_le _) (by simp [ByteArray.size])
    have hs : 0 ≤ (r : Int) ∧ (r : Int) < d.secs.length := by omega
    have hl : (L : Int) ≠ 0 := by omega
    have hsp : spentI (L : Nat) = ((l - (i + 1) : Nat) : Int) := by unfold spentI; rw [if_pos (by omega)]; omega
    refine ⟨writeD d r ⟨#[120]⟩, flushD d, 0, ?_, ?_, ⟨write_right d _ _ hr hs hx, hlen, ?_⟩, ⟨crash_right d _ hr, (crash_len d _ hr).trans hlen, ?_⟩, .inl ⟨rfl, h⟩⟩
    · rw [wrO_on d _ _ _ hl hr hs hx, hsp]
    · rw [flO_on d _ hl hr, hsp]
    · show (d.pend ++ [_]).length ≤ _; rw [List.length_append]; simp; omega
    · show (crashD d _).pend.length ≤ _; rw [crash_pend d _ hr]; simp
  · obtain rfl : L = 0 := by omega
    refine ⟨d, d, 21, ?_, ?_, ⟨hr, hlen, by omega⟩, ⟨hr, hlen, by omega⟩, .inr ⟨rfl, h, rfl, rfl, by omega, rfl⟩⟩
    · rw [show l - (i + 1) = 0 by omega]; exact wrO_off d _ _
    · rw [show l - (i + 1) = 0 by omega]; exact flO_off d
set_option maxRecDepth 100000 in
set_option maxHeartbeats 1000000 in
theorem walk (ln cn : Int) (w : World) (wl : (Lit.int .i64 ln).wf = true) (wc : (Lit.int .i64 cn).wf = true) :
    Calls Tryd.prog 5 #[.int .i64 ln, .int .i64 cn] w fun e w' => e = .returned (.bool true) ∧ Below w.heap.size w w' := by
  obtain ⟨lm, hl0⟩ : ∃ lm : Int, (if ln < 0 then 0 else ln) = lm := ⟨_, rfl⟩
  obtain ⟨l, hl1, hl2⟩ : ∃ l : Nat, ((if 30 < lm then 30 else lm) : Int) = l ∧ l ≤ 30 := by
    have : 0 ≤ lm := by rw [← hl0]; split <;> omega
    by_cases h2 : 30 < lm
    · exact ⟨30, by rw [if_pos h2]; rfl, by omega⟩
    · exact ⟨lm.toNat, by rw [if_neg h2]; omega, by omega⟩
  obtain ⟨cm, hc0⟩ : ∃ cm : Int, (if cn < 0 then 0 else cn) = cm := ⟨_, rfl⟩
  obtain ⟨c, hc1, hc2⟩ : ∃ c : Nat, ((if 40 < cm then 40 else cm) : Int) = c ∧ c ≤ 40 := by
    have : 0 ≤ cm := by rw [← hc0]; split <;> omega
    by_cases h2 : 40 < cm
    · exact ⟨40, by rw [if_pos h2]; rfl, by omega⟩
    · exact ⟨cm.toNat, by rw [if_neg h2]; omega, by omega⟩
  have hwl := wf_i64 wl; have hwc := wf_i64 wc
  clear wl wc
  go_enter Tryd.func5, Tryd.ntmps5
  go_wp2_with fail
  refine (diskNew_ok 3 w (by omega) (by omega)).mono ?_
  rintro e w2 ⟨v, rfl, hd, hb⟩
  obtain ⟨a, cap, a', cap', rfl, _⟩ := hd.form
  rw [show (newD 3).secs.length = 3 from rfl, show (newD 3).pend.length = 0 from rfl] at *
  go_upto_region 3 with fail
  have hw3 : Below w.heap.size w (w2.alloc (.cells #[.slice a 3 cap, .slice a' 0 cap'] 25)) := hb.alloc hb.size _
  have hd3 := hd.below ((Below.refl _ w2).alloc (Nat.le_refl _) (.cells #[.slice a 3 cap, .slice a' 0 cap'] 25))
  have hb2 := heap_alloc_new w2 (.cells #[.slice a 3 cap, .slice a' 0 cap'] 25)
  obtain ⟨w3, hW3⟩ : ∃ w3, w2.alloc (.cells #[.slice a 3 cap, .slice a' 0 cap'] 25) = w3 := ⟨_, rfl⟩
  rw [hW3] at hw3 hd3 hb2 ⊢
  clear hW3 hd hl1 hc1 hwl hwc hl0 hc0
  have x0 := below_cell (Below.refl _ w3) hb2 0 rfl
  have x1 := below_cell (Below.refl _ w3) hb2 1 rfl
  go_upto_region 4 with fail
  have hw4 : Below w.heap.size w (w3.alloc (.cells #[.slice a 3 cap, .slice a' 0 cap', .int .i64 (l : Nat)] 31)) := hw3.alloc hw3.size _
  have hp4 := power_of (l : Nat) (hd3.below ((Below.refl _ w3).alloc (Nat.le_refl _) (.cells #[.slice a 3 cap, .slice a' 0 cap', .int .i64 (l : Nat)] 31)))
  have hb4 := heap_alloc_new w3 (.cells #[.slice a 3 cap, .slice a' 0 cap', .int .i64 (l : Nat)] 31)
  have hz3 := hw3.size
  obtain ⟨B, hB⟩ : ∃ B, w3.heap.size = B := ⟨_, rfl⟩
  rw [hB] at hb4 hz3
  obtain ⟨w4, hW4⟩ : ∃ w4, w3.alloc (.cells #[.slice a 3 cap, .slice a' 0 cap', .int .i64 (l : Nat)] 31) = w4 := ⟨_, rfl⟩
  rw [hW4, hB]
  rw [hW4] at hw4 hp4 hb4
  clear hW4 hB x0 x1 hd3 hw3 hb2 hb
  have hn3 : rightD (newD 3) = true := new_right 3 (by omega) (by omega)
  go_wp2_with fail
  go_loopw [25] (fun z wr => ∃ (i : Nat) (d : Dsk) (p : Option Addr) (n pc : Nat) (p' : Option Addr) (n' pc' : Nat), i ≤ c ∧ z = .int .i64 i ∧ wr.heap[B]? = some (.cells #[.slice p n pc, .slice p' n' pc', .int .i64 ((l - i : Nat) : Int)] 31 (0, 0)) ∧ IsPower wr (.agg #[.slice p n pc, .slice p' n' pc', .int .i64 ((l - i : Nat) : Int)]) d ((l - i : Nat) : Int) ∧ rightD d = true ∧ d.secs.length = 3 ∧ d.pend.length ≤ i ∧ Below w.heap.size w wr) (fun z _ => c - (intOf z).toNat)
  case atStart => exact ⟨0, newD 3, _, _, _, _, _, _, by omega, rfl, hb4, hp4, hn3, rfl, Nat.zero_le _, hw4⟩
  case round =>
    obtain ⟨i, d, p, n, pc, p', n', pc', hi, rfl, hT7, hpw, hr, hlen, hpend, hbw⟩ := hrel
    clear hb4 hp4 hn3 hw4
    by_cases hlt : i < c
    · have hiI : (i : Int) < c := by omega
      obtain ⟨r, hr1, hr2⟩ : ∃ r : Nat, (i : Int).tmod 3 = r ∧ r < 3 := ⟨i % 3, by rw [Int.tmod_eq_emod_of_nonneg (by omega)]; omega, by omega⟩
      obtain ⟨q, hq1, hq2⟩ : ∃ q : Nat, (i : Int).tmod 4 = q ∧ q < 4 := ⟨i % 4, by rw [Int.tmod_eq_emod_of_nonneg (by omega)]; omega, by omega⟩
      obtain ⟨L, hL⟩ : ∃ L : Nat, l - i = L := ⟨_, rfl⟩
      rw [hL] at hT7 hpw
      have hLb : (L : Int) ≤ 9223372036854775807 := by omega
      have hLb2 : -9223372036854775808 ≤ (L : Int) := by omega
      obtain ⟨d1, d2, k, hO, hF, ⟨hr1', hlen1, hpe1⟩, ⟨hr2', hlen2, hpe2⟩, hk⟩ := left_key l i L hL d r hr2 hr hlen hpend
      have HO := Lib.hid hO; have HF := Lib.hid hF
      clear hO hF
      obtain ⟨M, hM⟩ : ∃ M : Nat, l - (i + 1) = M := ⟨_, rfl⟩
      rw [hM] at HO HF hk
      have HM := Lib.hid hM
      have HL := Lib.hid hL
      clear hM hL
      have x0 := below_cell (Below.refl _ wr) hT7 0 rfl
      have x1 := below_cell (Below.refl _ wr) hT7 1 rfl
      have x2 := below_cell (Below.refl _ wr) hT7 2 rfl
      go_wp2_with fail
      refine (diskWrite_any _ d (L : Nat) (r : Nat) ⟨#[120]⟩ wr hpw hLb2 hLb (by simp [ByteArray.size]) (by omega)).mono ?_
      rw [HO.out]
      rintro e w5 ⟨v1, rfl, hq1, hb5⟩
      simp only at hq1
      obtain ⟨b, bc, b', bc', rfl, _⟩ := hq1.form
      rw [hlen1] at hq1 ⊢
      obtain ⟨m1, hm1⟩ : ∃ m1, d1.pend.length = m1 := ⟨_, rfl⟩
      rw [hm1] at hq1 ⊢
      have HM1 := Lib.hid hm1
      have HL1 := Lib.hid hlen1; have HL2 := Lib.hid hlen2; have HP1 := Lib.hid hpe1; have HP2 := Lib.hid hpe2
      clear hm1 hlen1 hlen2 hpe1 hpe2
      have hal := hb5.trans (((Below.refl _ w5).alloc (Nat.le_refl _) (.cells #[.slice b 3 bc, .slice b' m1 bc', .int .i64 (M : Nat)] 31)).mono hb5.size)
      have hq := hq1.below ((Below.refl _ w5).alloc (Nat.le_refl _) (.cells #[.slice b 3 bc, .slice b' m1 bc', .int .i64 (M : Nat)] 31))
      have hR := heap_alloc_new w5 (.cells #[.slice b 3 bc, .slice b' m1 bc', .int .i64 (M : Nat)] 31)
      have hT := (hal.block _ (Array.getElem?_eq_some_iff.1 hT7).1).trans hT7
      have hpw' := hpw.below hal
      have hbw' := hbw.trans (hal.mono hbw.size)
      have hBR : B < w5.heap.size := Nat.lt_of_lt_of_le (Array.getElem?_eq_some_iff.1 hT7).1 hb5.size
      go_upto_region 8 with fail
      obtain ⟨w6, hW6⟩ : ∃ w6, w5.alloc (.cells #[.slice b 3 bc, .slice b' m1 bc', .int .i64 (M : Nat)] 31) = w6 := ⟨_, rfl⟩
      rw [hW6] at hq hR hT hpw' hbw' ⊢
      obtain ⟨R, hRR⟩ : ∃ R, w5.heap.size = R := ⟨_, rfl⟩
      rw [hRR] at hR hBR ⊢
      clear hW6 hal hq1 hb5 x0 x1 x2 hRR hT7 hpw hbw
      by_cases hq3 : q = 3
      · subst hq3
        have HR1 := Lib.hid hr1'
        clear hr1'
        have x0 := below_cell (Below.refl _ w6) hT 0 rfl
        have x1 := below_cell (Below.refl _ w6) hT 1 rfl
        have x2 := below_cell (Below.refl _ w6) hT 2 rfl
        go_wp2_with fail
        refine (diskFlush_any _ d (L : Nat) w6 hpw' hLb2 hLb (by omega)).mono ?_
        rw [HF.out]
        rintro e w7 ⟨v2, rfl, hq2', hb7⟩
        simp only at hq2'
        obtain ⟨c1, cc, c1', cc', rfl, _⟩ := hq2'.form
        rw [HL2.out] at hq2' ⊢
        obtain ⟨m2, hm2⟩ : ∃ m2, d2.pend.length = m2 := ⟨_, rfl⟩
        rw [hm2] at hq2' ⊢
        have HM2 := Lib.hid hm2
        clear hm2
        have hT7 := (hb7.block _ (Array.getElem?_eq_some_iff.1 hT).1).trans hT
        have hR7 := (hb7.block _ (Array.getElem?_eq_some_iff.1 hR).1).trans hR
        have hpw7 := hpw'.below hb7
        have hbw7 := hbw'.trans (hb7.mono hbw'.size)
        clear hT hR hpw' hbw' hq hb7 x0 x1 x2
        have x0 := below_cell (Below.refl _ w7) hR7 0 rfl
        have x1 := below_cell (Below.refl _ w7) hR7 1 rfl
        have x2 := below_cell (Below.refl _ w7) hR7 2 rfl
        have f0 := block_frozen hR7 0
        have f1 := block_frozen hR7 1
        have f2 := block_frozen hR7 2
        go_upto_region 10 with fail
        have hwR : w.heap.size ≤ R := by omega
        have hne : B ≠ R := Nat.ne_of_lt hBR
        have hR := set3_block hR7 (.slice c1 3 cc) (.slice c1' m2 cc') (.int .i64 (M : Nat))
        have hT := (set3_other w7 R (.slice c1 3 cc) (.slice c1' m2 cc') (.int .i64 (M : Nat)) B hne).trans hT7
        have hq := hq2'.apart hR7 (no_text _ _ _ _ _ _ _) (Nat.le_of_eq (set3_size w7 R (.slice c1 3 cc) (.slice c1' m2 cc') (.int .i64 (M : Nat))).symm) (set3_other w7 R (.slice c1 3 cc) (.slice c1' m2 cc') (.int .i64 (M : Nat)))
        have hpw' := hpw7.apart hR7 (no_text _ _ _ _ _ _ _) (Nat.le_of_eq (set3_size w7 R (.slice c1 3 cc) (.slice c1' m2 cc') (.int .i64 (M : Nat))).symm) (set3_other w7 R (.slice c1 3 cc) (.slice c1' m2 cc') (.int .i64 (M : Nat)))
        have hbw' := set3_below hbw7 hwR (.slice c1 3 cc) (.slice c1' m2 cc') (.int .i64 (M : Nat))
        obtain ⟨w8, hW8⟩ : ∃ w8, set3 w7 R (.slice c1 3 cc) (.slice c1' m2 cc') (.int .i64 (M : Nat)) = w8 := ⟨_, rfl⟩
        rw [hW8] at hR hT hq hpw' hbw'
        unfold set3 at hW8
        rw [hW8]
        clear hW8 hT7 hR7 hpw7 hbw7 hq2' x0 x1 x2 f0 f1 f2 hne
        have x0 := below_cell (Below.refl _ w8) hT 0 rfl
        have x1 := below_cell (Below.refl _ w8) hT 1 rfl
        have x2 := below_cell (Below.refl _ w8) hT 2 rfl
        have y0 := below_cell (Below.refl _ w8) hR 0 rfl
        have y1 := below_cell (Below.refl _ w8) hR 1 rfl
        have y2 := below_cell (Below.refl _ w8) hR 2 rfl
        have f0 := block_frozen hT 0
        have f1 := block_frozen hT 1
        have f2 := block_frozen hT 2
        rcases hk with ⟨rfl, hil⟩ | ⟨rfl, hil, rfl, rfl, rfl, rfl⟩
        · have hilI : (i : Int) < l := by omega
          clear hil hpw'
          have hs := set3_block hT (.slice c1 3 cc) (.slice c1' m2 cc') (.int .i64 (M : Nat))
          have hp9 := hq.apart hT (no_text _ _ _ _ _ _ _) (Nat.le_of_eq (set3_size w8 B (.slice c1 3 cc) (.slice c1' m2 cc') (.int .i64 (M : Nat))).symm) (set3_other w8 B (.slice c1 3 cc) (.slice c1' m2 cc') (.int .i64 (M : Nat)))
          have hb9 := set3_below hbw' hz3 (.slice c1 3 cc) (.slice c1' m2 cc') (.int .i64 (M : Nat))
          have HS := Lib.hid hs; have HP9 := Lib.hid hp9; have HB9 := Lib.hid hb9
          clear hs hp9 hb9
          unfold set3 at HS HP9 HB9
          go_wp2_with fail
          go_roundw
          case rel => exact ⟨i + 1, d2, _, _, _, _, _, _, by omega, by go_num, by rw [HM.out]; exact HS.out, by rw [HM.out]; exact HP9.out, by assumption, HL2.out, HP2.out, HB9.out⟩
          case measure => simp [intOf]; omega
        · have hilI : ¬ (i : Int) < l := by omega
          clear hil
          go_wp2_with fail
          refine (refLikePower_any _ _ _ _ _ _ w8 hpw' hq).mono ?_
          rw [decide_eq_true (show ((0 : Nat) : Int) = ((0 : Nat) : Int) ∧ d2 = d2 from ⟨rfl, rfl⟩)]
          rintro e w9 ⟨rfl, hb9⟩
          have hT' := (hb9.block _ (Array.getElem?_eq_some_iff.1 hT).1).trans hT
          have hR' := (hb9.block _ (Array.getElem?_eq_some_iff.1 hR).1).trans hR
          have hq' := hq.below hb9
          have hbw9 := hbw'.trans (hb9.mono hbw'.size)
          clear x0 x1 x2 y0 y1 y2 f0 f1 f2 hT hR hq hbw' hb9
          have x0 := below_cell (Below.refl _ w9) hT' 0 rfl
          have x1 := below_cell (Below.refl _ w9) hT' 1 rfl
          have x2 := below_cell (Below.refl _ w9) hT' 2 rfl
          have y0 := below_cell (Below.refl _ w9) hR' 0 rfl
          have y1 := below_cell (Below.refl _ w9) hR' 1 rfl
          have y2 := below_cell (Below.refl _ w9) hR' 2 rfl
          have f0 := block_frozen hT' 0
          have f1 := block_frozen hT' 1
          have f2 := block_frozen hT' 2
          have hs := set3_block hT' (.slice c1 3 cc) (.slice c1' m2 cc') (.int .i64 (0 : Nat))
          have hp9 := hq'.apart hT' (no_text _ _ _ _ _ _ _) (Nat.le_of_eq (set3_size w9 B (.slice c1 3 cc) (.slice c1' m2 cc') (.int .i64 (0 : Nat))).symm) (set3_other w9 B (.slice c1 3 cc) (.slice c1' m2 cc') (.int .i64 (0 : Nat)))
          have hb9 := set3_below hbw9 hz3 (.slice c1 3 cc) (.slice c1' m2 cc') (.int .i64 (0 : Nat))
          have HS := Lib.hid hs; have HP9 := Lib.hid hp9; have HB9 := Lib.hid hb9
          clear hs hp9 hb9
          unfold set3 at HS HP9 HB9
          go_wp2_with fail
          go_roundw
          case rel => exact ⟨i + 1, d2, _, _, _, _, _, _, by omega, by go_num, by rw [HM.out]; exact HS.out, by rw [HM.out]; exact HP9.out, by assumption, HL2.out, HP2.out, HB9.out⟩
          case measure => simp [intOf]; omega
      · have hq3' : ((q : Int) == 3) = false := by rw [beq_eq_false_iff_ne]; omega
        have HR2 := Lib.hid hr2'
        clear hr2'
        go_upto_region 10 with fail
        have x0 := below_cell (Below.refl _ w6) hT 0 rfl
        have x1 := below_cell (Below.refl _ w6) hT 1 rfl
        have x2 := below_cell (Below.refl _ w6) hT 2 rfl
        have y0 := below_cell (Below.refl _ w6) hR 0 rfl
        have y1 := below_cell (Below.refl _ w6) hR 1 rfl
        have y2 := below_cell (Below.refl _ w6) hR 2 rfl
        have f0 := block_frozen hT 0
        have f1 := block_frozen hT 1
        have f2 := block_frozen hT 2
        rcases hk with ⟨rfl, hil⟩ | ⟨rfl, hil, rfl, rfl, rfl, rfl⟩
        · have hilI : (i : Int) < l := by omega
          clear hil hpw'
          have hs := set3_block hT (.slice b 3 bc) (.slice b' m1 bc') (.int .i64 (M : Nat))
          have hp9 := hq.apart hT (no_text _ _ _ _ _ _ _) (Nat.le_of_eq (set3_size w6 B (.slice b 3 bc) (.slice b' m1 bc') (.int .i64 (M : Nat))).symm) (set3_other w6 B (.slice b 3 bc) (.slice b' m1 bc') (.int .i64 (M : Nat)))
          have hb9 := set3_below hbw' hz3 (.slice b 3 bc) (.slice b' m1 bc') (.int .i64 (M : Nat))
          have HS := Lib.hid hs; have HP9 := Lib.hid hp9; have HB9 := Lib.hid hb9
          clear hs hp9 hb9
          unfold set3 at HS HP9 HB9
          go_wp2_with fail
          go_roundw
          case rel => exact ⟨i + 1, d1, _, _, _, _, _, _, by omega, by go_num, by rw [HM.out]; exact HS.out, by rw [HM.out]; exact HP9.out, by assumption, HL1.out, HP1.out, HB9.out⟩
          case measure => simp [intOf]; omega
        · have hilI : ¬ (i : Int) < l := by omega
          clear hil
          go_wp2_with fail
          refine (refLikePower_any _ _ _ _ _ _ w6 hpw' hq).mono ?_
          rw [decide_eq_true (show ((0 : Nat) : Int) = ((0 : Nat) : Int) ∧ d2 = d2 from ⟨rfl, rfl⟩)]
          rintro e w9 ⟨rfl, hb9⟩
          have hT' := (hb9.block _ (Array.getElem?_eq_some_iff.1 hT).1).trans hT
          have hR' := (hb9.block _ (Array.getElem?_eq_some_iff.1 hR).1).trans hR
          have hq' := hq.below hb9
          have hbw9 := hbw'.trans (hb9.mono hbw'.size)
          clear x0 x1 x2 y0 y1 y2 f0 f1 f2 hT hR hq hbw' hb9
          have x0 := below_cell (Below.refl _ w9) hT' 0 rfl
          have x1 := below_cell (Below.refl _ w9) hT' 1 rfl
          have x2 := below_cell (Below.refl _ w9) hT' 2 rfl
          have y0 := below_cell (Below.refl _ w9) hR' 0 rfl
          have y1 := below_cell (Below.refl _ w9) hR' 1 rfl
          have y2 := below_cell (Below.refl _ w9) hR' 2 rfl
          have f0 := block_frozen hT' 0
          have f1 := block_frozen hT' 1
          have f2 := block_frozen hT' 2
          have hs := set3_block hT' (.slice b 3 bc) (.slice b' m1 bc') (.int .i64 (0 : Nat))
          have hp9 := hq'.apart hT' (no_text _ _ _ _ _ _ _) (Nat.le_of_eq (set3_size w9 B (.slice b 3 bc) (.slice b' m1 bc') (.int .i64 (0 : Nat))).symm) (set3_other w9 B (.slice b 3 bc) (.slice b' m1 bc') (.int .i64 (0 : Nat)))
          have hb9 := set3_below hbw9 hz3 (.slice b 3 bc) (.slice b' m1 bc') (.int .i64 (0 : Nat))
          have HS := Lib.hid hs; have HP9 := Lib.hid hp9; have HB9 := Lib.hid hb9
          clear hs hp9 hb9
          unfold set3 at HS HP9 HB9
          go_wp2_with fail
          go_roundw
          case rel => exact ⟨i + 1, d2, _, _, _, _, _, _, by omega, by go_num, by rw [HM.out]; exact HS.out, by rw [HM.out]; exact HP9.out, by assumption, HL1.out, HP1.out, HB9.out⟩
          case measure => simp [intOf]; omega
    · obtain rfl : i = c := by omega
      clear hpw
      obtain ⟨M, hM⟩ : ∃ M : Nat, l - i = M := ⟨_, rfl⟩
      rw [hM] at hT7
      have hmx : (if ((l : Int) - i) < 0 then 0 else (l : Int) - i) = (M : Int) := by split <;> omega
      clear hM
      go_wp2_with fail
      refine (diskAlive wr).mono ?_
      rintro e w5 ⟨rfl, hb5⟩
      have hT5 := (hb5.block _ (Array.getElem?_eq_some_iff.1 hT7).1).trans hT7
      have x2 := below_cell (Below.refl _ w5) hT5 2 rfl
      go_wp2_with fail
      go_ret
      exact ⟨rfl, hbw.trans (hb5.mono hbw.size)⟩
end Go.Proofs.YtabkpoolhcpihaaDoor.lawDiskLeft
