/- The law's own opening of what a crash left. -/
import Derived.Test.YthnmnnlbglpjaaaGreatDoorWq0
import Derived.Test.YthnmnnlbglpjaaaGreatDoorWo3
namespace Go.Proofs.YthnmnnlbglpjaaaGreatDoor
open Go.RowKit
set_option linter.unusedVariables false
set_option linter.unusedSimpArgs false

/-- what is opened, wherever the power goes in it -/
def Opened (N : Nat) (T T' : Nat → ByteArray) (E : Int) (y : Lg) : Prop := Sound y ∧ (HasV y N T ∨ HasV y N T') ∧ y.left < 0 ∧ y.epoch ≤ E
structure Plan (d : Dsk) (keep : List Bool) (A : Int) (N : Nat) (T T' : Nat → ByteArray) (E : Int) : Prop where
  right : rightE d = 0
  codes : opE (crashD d keep) A = 0 ∨ opE (crashD d keep) A = 21
  one : opE (crashD d keep) A = 0 → Opened N T T' E ((opL (crashD d keep) A).pow (-1))
  right2 : rightE (opL (crashD d keep) A).dsk = 0
  two : opE (crashD (opL (crashD d keep) A).dsk keep) (-1) = 0
  twoL : Opened N T T' E ((opL (crashD (opL (crashD d keep) A).dsk keep) (-1)).pow (-1))
  few : (crashD d keep).pend.length ≤ 600
  few2 : (crashD (opL (crashD d keep) A).dsk keep).pend.length ≤ 600
theorem right_zero {d : Dsk} (h : rightD d = true) : rightE d = 0 := by unfold rightE; rw [if_pos h]
theorem open_plan {d : Dsk} {N : Nat} {T T' : Nat → ByteArray} {E1 E2 : Int} (hk : Kept2 N T T' E1 E2 d) (hE : E2 + 2 ≤ 1099511627776) (keep : List Bool) (A : Int) : Plan d keep A N T T' (E2 + 2) := by
  obtain ⟨l1, s1, e1, v1, _, b1⟩ := hk keep
  obtain ⟨T1, hT1, hTT⟩ : ∃ T1, HasV l1 N T1 ∧ (T1 = T ∨ T1 = T') := by
    rcases v1 with v1 | v1
    · exact ⟨T, v1, .inl rfl⟩
    · exact ⟨T', v1, .inr rfl⟩
  have htt : ∀ y : Lg, HasV y N T1 → HasV y N T ∨ HasV y N T' := fun y h => by
    rcases hTT with rfl | rfl
    · exact .inl h
    · exact .inr h
  obtain ⟨oL, oE⟩ := sound_open s1 A
  have G1 := ck_go (s1.pow A) (show l1.epoch < 1099511627776 by omega) (hT1.pow A)
  rw [← e1] at oL oE
  have hp1 : (crashD d keep).pend.length ≤ 600 := by
    rw [e1]
    show l1.pend.length ≤ 600
    rw [s1.pend]; exact Nat.zero_le _
  obtain ⟨l2, s2, e2, v2, b2, b3⟩ := G1.kept keep
  have hb3 : l2.epoch ≤ l1.epoch + 1 := b3
  obtain ⟨oL2, oE2⟩ := sound_open s2 (-1)
  have G2 := ck_go (s2.pow (-1)) (show l2.epoch < 1099511627776 by omega) (v2.pow (-1))
  obtain ⟨f1, f2⟩ := G2.full (show (-1 : Int) < 0 by decide)
  obtain ⟨g1, g2, g3, _⟩ := G2.done f1
  have hr2 : rightD (ckL (l1.pow A)).dsk = true := kept_right (G1.kept.two (T' := T) (Int.le_refl _) (Int.le_refl _))
  rw [← e2] at oL2 oE2
  refine ⟨right_zero (kept_right hk), by rw [oE]; exact G1.codes, fun h0 => ?_, by rw [oL]; exact right_zero hr2, by rw [oL, oE2]; exact f1, ?_, hp1, ?_⟩
  · rw [oE] at h0
    obtain ⟨a1, a2, a3, _⟩ := G1.done h0
    rw [oL]
    exact ⟨a1.pow _, htt _ (a2.pow _), show (-1 : Int) < 0 by decide, show (ckL (l1.pow A)).epoch ≤ E2 + 2 by rw [a3]; show l1.epoch + 1 ≤ E2 + 2; omega⟩
  · rw [oL, oL2]
    exact ⟨g1.pow _, htt _ (g2.pow _), show (-1 : Int) < 0 by decide, show (ckL (l2.pow (-1))).epoch ≤ E2 + 2 by rw [g3]; show l2.epoch + 1 ≤ E2 + 2; omega⟩
  · rw [oL, e2]
    show l2.pend.length ≤ 600
    rw [s2.pend]; exact Nat.zero_le _
theorem noText2 (a b : Option Addr) (n c n' c' : Nat) : ∀ (j : Nat) (s : ByteArray), (#[Value.slice a n c, .slice b n' c'] : Array Value)[j]? ≠ some (Value.string s)
  | 0, _ => by simp
  | 1, _ => by simp
  | j + 2, _ => by simp
def nilLogC : Array Value := #[.slice none 0 0, .slice none 0 0, .int .i64 0, .int .i64 0, .int .i64 0, .int .i64 0, .slice none 0 0]
set_option maxRecDepth 100000 in
set_option maxHeartbeats 2000000 in
theorem lawOpen (dv av : Value) (d : Dsk) (x : Actn) (N : Nat) (T T' : Nat → ByteArray) (E1 E2 : Int) (w : World) (hd : IsDisk w dv d) (ha : IsAct w av x) (hk : Kept2 N T T' E1 E2 d) (hE : E2 + 2 ≤ 1099511627776) :
    Calls Tryz.prog 23 #[dv, av] w fun e w' => ∃ yv y, e = .returned (.tuple #[yv, .bool true]) ∧ IsLog w' yv y ∧ Below w.heap.size w w' ∧ Opened N T T' (E2 + 2) y := by
  obtain ⟨⟨_, hag⟩, k1, k2, rfl, hw1, hb1⟩ := id ha
  obtain ⟨x1, c1, x2, c2, rfl, _⟩ := id hd.form
  obtain ⟨X, hX⟩ : ∃ X, x.again = X := ⟨_, rfl⟩
  obtain ⟨q, hq⟩ : ∃ q, (if X < 0 then (0 : Int) else X) = q := ⟨_, rfl⟩
  have hq2 : max X 0 = q := by rw [← hq]; split <;> omega
  rw [hX] at hag
  have hqk : i64ok q := by
    obtain ⟨g1, g2⟩ := hag
    rw [← hq]
    constructor <;> split <;> omega
  have hP := open_plan hk hE x.keep q
  generalize E2 + 2 = E at *
  obtain ⟨P1, P2, P3, P4, P5, P6, P7, P8⟩ := hP
  obtain ⟨C1, hC1⟩ : ∃ C1, crashD d x.keep = C1 := ⟨_, rfl⟩
  rw [hC1] at P2 P3 P4 P5 P6 P7 P8
  obtain ⟨L1, hL1⟩ : ∃ L1, opL C1 q = L1 := ⟨_, rfl⟩
  obtain ⟨F1, hF1⟩ : ∃ F1, opE C1 q = F1 := ⟨_, rfl⟩
  rw [hL1] at P3 P4 P5 P6 P8
  rw [hF1] at P2 P3
  obtain ⟨C2, hC2⟩ : ∃ C2, crashD L1.dsk x.keep = C2 := ⟨_, rfl⟩
  rw [hC2] at P5 P6 P8
  obtain ⟨L2, hL2⟩ : ∃ L2, opL C2 (-1) = L2 := ⟨_, rfl⟩
  rw [hL2] at P6
  have HCR1 : Hid (∀ u, Below w.heap.size w u → Calls Tryz.prog 54 #[.agg #[.slice x1 d.secs.length c1, .slice x2 d.pend.length c2], k2] u (DiskPost 0 C1 u)) := Lib.hid (fun u hu => by
    have := diskCrash_any _ _ d x.keep u (hd.below hu) (IsBools.below hb1 hu)
    rw [P1, hC1] at this
    exact this)
  have HOP1 : Hid (∀ u v, IsPower u v C1 q → Calls Tryz.prog 16 #[v] u (LogPost L1 F1 u)) := Lib.hid (fun u v h => by
    have := wlOpen v C1 q u h hqk P7
    rw [hL1, hF1] at this
    exact this)
  have HCR2 : Hid (∀ u v, IsDisk u v L1.dsk → Below w.heap.size w u → Calls Tryz.prog 54 #[v, k2] u (DiskPost 0 C2 u)) := Lib.hid (fun u v h hu => by
    have := diskCrash_any v _ L1.dsk x.keep u h (IsBools.below hb1 hu)
    rw [P4, hC2] at this
    exact this)
  have HOP2 : Hid (∀ u v, IsPower u v C2 (-1) → Calls Tryz.prog 16 #[v] u (LogPost L2 0 u)) := Lib.hid (fun u v h => by
    have := wlOpen v C2 (-1) u h ⟨by decide, by decide⟩ P8
    rw [hL2, P5] at this
    exact this)
  have HP2 := Lib.hid P2; have HP3 := Lib.hid P3; have HP6 := Lib.hid P6
  clear hC1 hL1 hF1 hC2 hL2 P1 P2 P3 P4 P5 P6 P7 P8
  obtain ⟨LF, hLF⟩ : ∃ LF : Int, x.left = LF := ⟨_, rfl⟩
  obtain ⟨CK, hCK⟩ : ∃ CK, x.check = CK := ⟨_, rfl⟩
  obtain ⟨W0, hW0⟩ : ∃ W0, ((w.alloc (.cells #[.slice x1 d.secs.length c1, .slice x2 d.pend.length c2] 25)).alloc (.cells #[k1, .bool CK, .int .i64 LF, .int .i64 X, k2] 54)).alloc (.cells #[.slice none 0 0, .slice none 0 0, .int .i64 0, .int .i64 0, .int .i64 0, .int .i64 0, .slice none 0 0] 29) = W0 := ⟨_, rfl⟩
  obtain ⟨B, hB⟩ : ∃ B, w.heap.size = B := ⟨_, rfl⟩
  have hX0 : W0.heap[B]? = some (.cells #[.slice x1 d.secs.length c1, .slice x2 d.pend.length c2] 25 (0, 0)) ∧ W0.heap[B + 1]? = some (.cells #[k1, .bool CK, .int .i64 LF, .int .i64 X, k2] 54 (0, 0)) ∧ W0.heap[B + 2]? = some (.cells #[.slice none 0 0, .slice none 0 0, .int .i64 0, .int .i64 0, .int .i64 0, .int .i64 0, .slice none 0 0] 29 (0, 0)) ∧ Below w.heap.size w W0 := by
    obtain ⟨u1, D1, e1, f1, n1, b1, a1, _, z1⟩ := step_alloc (Below.refl w.heap.size w) (.cells #[.slice x1 d.secs.length c1, .slice x2 d.pend.length c2] 25)
    obtain ⟨u2, D2, e2, f2, n2, b2, a2, _, z2⟩ := step_alloc b1 (.cells #[k1, .bool CK, .int .i64 LF, .int .i64 X, k2] 54)
    obtain ⟨u3, D3, e3, f3, n3, b3, a3, _, z3⟩ := step_alloc b2 (.cells #[.slice none 0 0, .slice none 0 0, .int .i64 0, .int .i64 0, .int .i64 0, .int .i64 0, .slice none 0 0] 29)
    rw [e1, e2, e3] at hW0
    subst hW0
    obtain rfl : D1 = B := by omega
    obtain rfl : D2 = D1 + 1 := by omega
    obtain rfl : D3 = D1 + 2 := by omega
    exact ⟨Below.at' a3 (Below.at' a2 n1), Below.at' a3 n2, n3, b3⟩
  have HX := Lib.hid hX0; have HW0 := Lib.hid hW0; have HB := Lib.hid hB
  clear hX0 hW0 hB hqk hd ha hb1 hk hE hw1
  rw [hX, hLF, hCK]
  clear hX hLF hCK hag
  go_enter Tryz.func23, Tryz.ntmps23
  go_upto_region 1 with fail
  (try rw [HB.out])
  rw [HW0.out]
  obtain ⟨p1, p2, p3, hb⟩ := HX.out
  have HPA := Lib.hid p2; have HPR := Lib.hid p3; have HBW := Lib.hid hb
  have HC1 := Lib.hid (HCR1.out W0 hb)
  have d0 := below_cell (Below.refl _ W0) p1 0 rfl
  have d1 := below_cell (Below.refl _ W0) p1 1 rfl
  have a4 := below_cell (Below.refl _ W0) p2 4 rfl
  clear p1 p2 p3 hb HX HW0 HCR1
  go_upto_region 2 with (first | (go_at_call 54; refine HC1.out.mono ?_; rintro e u1 ⟨vc, rfl, hdc, hb1⟩; obtain ⟨y1, e1, y2, e2, rfl, _⟩ := id hdc.form))
  obtain ⟨u2, D, hU, hD, hn, hbw2, hal, hwD, hz2⟩ := step_alloc (HBW.out.trans (hb1.mono HBW.out.size)) (.cells #[.slice y1 C1.secs.length e1, .slice y2 C1.pend.length e2] 25)
  rw [hU]
  (try rw [hD])
  have HPA2 := Lib.hid (Below.at' hal (Below.at' hb1 HPA.out)); have HPR2 := Lib.hid (Below.at' hal (Below.at' hb1 HPR.out))
  have HDC := Lib.hid (hdc.below hal); have HN := Lib.hid hn; have HBW2 := Lib.hid hbw2
  have HBD := Lib.hid (show B + 2 < D by rw [← hD]; exact (Array.getElem?_eq_some_iff.1 (Below.at' hb1 HPR.out)).1)
  clear d0 d1 a4 hU hD hn hbw2 hal hwD hz2 hb1 hdc HPA HPR HC1 HBW
  have d0 := below_cell (Below.refl _ u2) HN.out 0 rfl
  have d1 := below_cell (Below.refl _ u2) HN.out 1 rfl
  have a3 := below_cell (Below.refl _ u2) HPA2.out 3 rfl
  have HO1 := Lib.hid (HOP1.out u2 _ (power_of q HDC.out))
  go_upto_region 5 with (first | (go_at_call 16; refine HO1.out.mono ?_; rintro e u3 ⟨vl, rfl, hl3, hb3⟩; obtain ⟨z1, z2, z3, z4, z5, z6, rfl, _⟩ := id hl3.form))
  obtain ⟨u4, G, hU, hD, hn, hbw4, hal, hwD, hz4⟩ := step_alloc (HBW2.out.trans (hb3.mono HBW2.out.size)) (.cells #[.slice z1 L1.secs.length z2, .slice z3 L1.pend.length z4, .int .i64 L1.left, .int .i64 L1.epoch, .int .i64 L1.seq, .int .i64 L1.used, .slice z5 L1.dirty.length z6] 29)
  rw [hU]
  (try rw [hD])
  have HPA4 := Lib.hid (Below.at' hal (Below.at' hb3 HPA2.out)); have HPR4 := Lib.hid (Below.at' hal (Below.at' hb3 HPR2.out))
  have HN4 := Lib.hid (Below.at' hal (Below.at' hb3 HN.out))
  have HL4 := Lib.hid (hl3.below hal); have HG4 := Lib.hid hn; have HBW4 := Lib.hid hbw4
  have HDG := Lib.hid (show D < G by rw [← hD]; exact (Array.getElem?_eq_some_iff.1 (Below.at' hb3 HN.out)).1)
  clear d0 d1 a3 hU hD hn hbw4 hal hwD hz4 hb3 hl3 HPA2 HPR2 HN HBW2 HO1 HOP1 HDC
  rcases HP2.out with rfl | rfl
  · have HY := Lib.hid (HP3.out rfl)
    have LB := HL4.out.box HG4.out
    go_upto_region 10 with fail
    have g2 := below_cell (Below.refl _ u4) HG4.out 2 rfl
    have f2 := block_frozen HG4.out 2
    have HLB5 := Lib.hid (LB.pow (-1) ⟨by decide, by decide⟩)
    have HG5 := Lib.hid (block_set HG4.out 2 (.int .i64 (-1)))
    have HL5 := Lib.hid (LB.log_stays (u' := u4.setCell ⟨G, 2, none⟩ (.int .i64 (-1))) (by simp) (fun b hb => Below.heap_setCell u4 ⟨G, 2, none⟩ (.int .i64 (-1)) b hb) (log_pow HL4.out (-1) ⟨by decide, by decide⟩))
    have HPR5 := Lib.hid ((Below.heap_setCell u4 ⟨G, 2, none⟩ (.int .i64 (-1)) (B + 2) (show B + 2 ≠ G by have := HBD.out; have := HDG.out; omega)).trans HPR4.out)
    have HBW5 := Lib.hid (HBW4.out.setCell (p := ⟨G, 2, none⟩) (show w.heap.size ≤ G by rw [HB.out]; have := HBD.out; have := HDG.out; omega) (.int .i64 (-1)))
    go_upto_region 11 with fail
    obtain ⟨u5, hU⟩ : ∃ u5, u4.setCell ⟨G, 2, none⟩ (.int .i64 (-1)) = u5 := ⟨_, rfl⟩
    rw [hU] at HLB5 HG5 HL5 HPR5 HBW5 ⊢
    clear hU g2 f2 LB HG4 HL4 HPR4 HBW4 HPA4 HN4 HCR2 HOP2 HP6 HP3
    have g0 := below_cell (Below.refl _ u5) HG5.out 0 rfl
    have g1 := below_cell (Below.refl _ u5) HG5.out 1 rfl
    have g2 := below_cell (Below.refl _ u5) HG5.out 2 rfl
    have g3 := below_cell (Below.refl _ u5) HG5.out 3 rfl
    have g4 := below_cell (Below.refl _ u5) HG5.out 4 rfl
    have g5 := below_cell (Below.refl _ u5) HG5.out 5 rfl
    have g6 := below_cell (Below.refl _ u5) HG5.out 6 rfl
    have hst := HPR5.out
    have HS := Lib.hid (setRow_heap u5 (B + 2) _ #[.slice z1 L1.secs.length z2, .slice z3 L1.pend.length z4, .int .i64 (-1), .int .i64 L1.epoch, .int .i64 L1.seq, .int .i64 L1.used, .slice z5 L1.dirty.length z6] _ _ hst)
    have HLF := Lib.hid (HL5.out.apart (w' := u5.setRow (B + 2) #[.slice z1 L1.secs.length z2, .slice z3 L1.pend.length z4, .int .i64 (-1), .int .i64 L1.epoch, .int .i64 L1.seq, .int .i64 L1.used, .slice z5 L1.dirty.length z6]) hst (logNoText _ _ _ _ _ _ _ _ _ _ _ _ _) (by rw [setRow_size]; exact Nat.le_refl _) (fun k hk => setRow_other u5 (B + 2) k _ hk))
    have HBF := Lib.hid (below_setRow HBW5.out (show w.heap.size ≤ B + 2 by rw [HB.out]; omega) #[.slice z1 L1.secs.length z2, .slice z3 L1.pend.length z4, .int .i64 (-1), .int .i64 L1.epoch, .int .i64 L1.seq, .int .i64 L1.used, .slice z5 L1.dirty.length z6])
    go_wp2_with (first | (refine wpList_store_row rfl 29 _ _ rfl (B + 2) #[.slice z1 L1.secs.length z2, .slice z3 L1.pend.length z4, .int .i64 (-1), .int .i64 L1.epoch, .int .i64 L1.seq, .int .i64 L1.used, .slice z5 L1.dirty.length z6] rfl rfl 29 _ hst (by kernel_rfl) rfl (by simp [Value.oneCell']) ?_))
    refine bodyPost_ret (results_row_tmp rfl _ _ (B + 2) _ _ _ _ rfl HS.out Tryz.underlying29 rfl (by kernel_rfl)) rfl (by exact ⟨_, rfl, L1.pow (-1), HLF.out, HBF.out, HY.out⟩)
  · have HY := HP6
    have LB := HL4.out.box HG4.out
    have HDK := Lib.hid (HL4.out.disk)
    have g0 := below_cell (Below.refl _ u4) HG4.out 0 rfl
    have g1 := below_cell (Below.refl _ u4) HG4.out 1 rfl
    have a4 := below_cell (Below.refl _ u4) HPA4.out 4 rfl
    have HC2 := Lib.hid (HCR2.out u4 _ HDK.out HBW4.out)
    clear HP3 HP6 HCR2
    go_upto_region 6 with fail
    go_upto_region 7 with (first | (go_at_call 54; refine HC2.out.mono ?_; rintro e u5 ⟨vc, rfl, hdc, hb5⟩; obtain ⟨y1, e1, y2, e2, rfl, _⟩ := id hdc.form; have hN5 := Below.at' hb5 HN4.out; have n0 := below_cell (Below.refl _ u5) hN5 0 rfl; have n1 := below_cell (Below.refl _ u5) hN5 1 rfl; have nf0 := block_frozen hN5 0; have nf1 := block_frozen hN5 1))
    have hneDG := Nat.ne_of_lt HDG.out
    obtain ⟨u6, hU⟩ : ∃ u6, (u5.setCell ⟨D, 0, none⟩ (.slice y1 C2.secs.length e1)).setCell ⟨D, 1, none⟩ (.slice y2 C2.pend.length e2) = u6 := ⟨_, rfl⟩
    have hsz6 : u6.heap.size = u5.heap.size := by rw [← hU]; simp
    have hoth : ∀ b, b ≠ D → u6.heap[b]? = u5.heap[b]? := fun b hb => by
      rw [← hU, Below.heap_setCell _ _ _ _ hb, Below.heap_setCell _ _ _ _ hb]
    have hN6 := block_set (block_set hN5 0 (.slice y1 C2.secs.length e1)) 1 (.slice y2 C2.pend.length e2)
    have hbw6 := ((HBW4.out.trans (hb5.mono HBW4.out.size)).setCell (p := ⟨D, 0, none⟩) (show w.heap.size ≤ D by rw [HB.out]; have := HBD.out; omega) (.slice y1 C2.secs.length e1)).setCell (p := ⟨D, 1, none⟩) (show w.heap.size ≤ D by rw [HB.out]; have := HBD.out; omega) (.slice y2 C2.pend.length e2)
    rw [hU] at hN6 hbw6 ⊢
    have hPR6 := (hoth (B + 2) (by have := HBD.out; omega)).trans (Below.at' hb5 HPR4.out)
    have hG6 := (hoth G (fun e => hneDG e.symm)).trans (Below.at' hb5 HG4.out)
    have hL6 := (HL4.out.below hb5).apart hN5 (noText2 _ _ _ _ _ _) (Nat.le_of_eq hsz6.symm) hoth
    have hD6 : IsDisk u6 (.agg #[.slice y1 C2.secs.length e1, .slice y2 C2.pend.length e2]) C2 := ⟨_, _, rfl, hdc.secs.apart hN5 (noText2 _ _ _ _ _ _) (Nat.le_of_eq hsz6.symm) hoth, hdc.pend.apart hN5 (noText2 _ _ _ _ _ _) (Nat.le_of_eq hsz6.symm) hoth⟩
    have HN6 := Lib.hid hN6; have HBW6 := Lib.hid hbw6; have HPR6 := Lib.hid hPR6; have HG6 := Lib.hid hG6; have HL6 := Lib.hid hL6
    have HO2 := Lib.hid (HOP2.out u6 _ (power_of (-1) hD6))
    clear hU hsz6 hoth hN6 hbw6 hPR6 hG6 hL6 hD6 n0 n1 nf0 nf1 hN5 hb5 hdc g0 g1 a4 HC2 HDK LB HL4 HG4 HPR4 HBW4 HPA4 HN4 HOP2 hneDG
    have n0 := below_cell (Below.refl _ u6) HN6.out 0 rfl
    have n1 := below_cell (Below.refl _ u6) HN6.out 1 rfl
    go_upto_region 9 with fail
    go_upto_region 10 with (first
      | (go_at_call 16; refine HO2.out.mono ?_; rintro e u7 ⟨vl, rfl, hl7, hb7⟩; obtain ⟨t1, t2, t3, t4, t5, t6, rfl, _⟩ := id hl7.form; have hst := Below.at' hb7 HG6.out)
      | (refine wpList_store_row rfl 29 _ _ rfl G #[.slice t1 L2.secs.length t2, .slice t3 L2.pend.length t4, .int .i64 L2.left, .int .i64 L2.epoch, .int .i64 L2.seq, .int .i64 L2.used, .slice t5 L2.dirty.length t6] rfl rfl 29 _ hst (by kernel_rfl) rfl (by simp [Value.oneCell']) ?_))
    have hG8 := setRow_heap u7 G _ #[.slice t1 L2.secs.length t2, .slice t3 L2.pend.length t4, .int .i64 L2.left, .int .i64 L2.epoch, .int .i64 L2.seq, .int .i64 L2.used, .slice t5 L2.dirty.length t6] _ _ hst
    have hL8 := hl7.apart (w' := u7.setRow G #[.slice t1 L2.secs.length t2, .slice t3 L2.pend.length t4, .int .i64 L2.left, .int .i64 L2.epoch, .int .i64 L2.seq, .int .i64 L2.used, .slice t5 L2.dirty.length t6]) hst (logNoText _ _ _ _ _ _ _ _ _ _ _ _ _) (by rw [setRow_size]; exact Nat.le_refl _) (fun k hk => setRow_other u7 G k _ hk)
    have hPR8 := (setRow_other u7 G (B + 2) #[.slice t1 L2.secs.length t2, .slice t3 L2.pend.length t4, .int .i64 L2.left, .int .i64 L2.epoch, .int .i64 L2.seq, .int .i64 L2.used, .slice t5 L2.dirty.length t6] (show B + 2 ≠ G by have := HBD.out; have := HDG.out; omega)).trans (Below.at' hb7 HPR6.out)
    have hBW8 := below_setRow (HBW6.out.trans (hb7.mono HBW6.out.size)) (show w.heap.size ≤ G by rw [HB.out]; have := HBD.out; have := HDG.out; omega) #[.slice t1 L2.secs.length t2, .slice t3 L2.pend.length t4, .int .i64 L2.left, .int .i64 L2.epoch, .int .i64 L2.seq, .int .i64 L2.used, .slice t5 L2.dirty.length t6]
    obtain ⟨u8, hU⟩ : ∃ u8, u7.setRow G #[.slice t1 L2.secs.length t2, .slice t3 L2.pend.length t4, .int .i64 L2.left, .int .i64 L2.epoch, .int .i64 L2.seq, .int .i64 L2.used, .slice t5 L2.dirty.length t6] = u8 := ⟨_, rfl⟩
    rw [hU] at hG8 hL8 hPR8 hBW8 ⊢
    have HG8 := Lib.hid hG8; have HL8 := Lib.hid hL8; have HPR8 := Lib.hid hPR8; have HBW8 := Lib.hid hBW8
    clear hU hG8 hL8 hPR8 hBW8 hst hl7 hb7 n0 n1 HN6 HBW6 HPR6 HG6 HL6 HO2
    have LB := HL8.out.box HG8.out
    have g2 := below_cell (Below.refl _ u8) HG8.out 2 rfl
    have f2 := block_frozen HG8.out 2
    have HG9 := Lib.hid (block_set HG8.out 2 (.int .i64 (-1)))
    have HL9 := Lib.hid (LB.log_stays (u' := u8.setCell ⟨G, 2, none⟩ (.int .i64 (-1))) (by simp) (fun b hb => Below.heap_setCell u8 ⟨G, 2, none⟩ (.int .i64 (-1)) b hb) (log_pow HL8.out (-1) ⟨by decide, by decide⟩))
    have HPR9 := Lib.hid ((Below.heap_setCell u8 ⟨G, 2, none⟩ (.int .i64 (-1)) (B + 2) (show B + 2 ≠ G by have := HBD.out; have := HDG.out; omega)).trans HPR8.out)
    have HBW9 := Lib.hid (HBW8.out.setCell (p := ⟨G, 2, none⟩) (show w.heap.size ≤ G by rw [HB.out]; have := HBD.out; have := HDG.out; omega) (.int .i64 (-1)))
    go_upto_region 11 with fail
    obtain ⟨u9, hU⟩ : ∃ u9, u8.setCell ⟨G, 2, none⟩ (.int .i64 (-1)) = u9 := ⟨_, rfl⟩
    rw [hU] at HG9 HL9 HPR9 HBW9 ⊢
    clear hU g2 f2 LB HG8 HL8 HPR8 HBW8
    have g0 := below_cell (Below.refl _ u9) HG9.out 0 rfl
    have g1 := below_cell (Below.refl _ u9) HG9.out 1 rfl
    have g2 := below_cell (Below.refl _ u9) HG9.out 2 rfl
    have g3 := below_cell (Below.refl _ u9) HG9.out 3 rfl
    have g4 := below_cell (Below.refl _ u9) HG9.out 4 rfl
    have g5 := below_cell (Below.refl _ u9) HG9.out 5 rfl
    have g6 := below_cell (Below.refl _ u9) HG9.out 6 rfl
    have hst := HPR9.out
    have HS := Lib.hid (setRow_heap u9 (B + 2) _ #[.slice t1 L2.secs.length t2, .slice t3 L2.pend.length t4, .int .i64 (-1), .int .i64 L2.epoch, .int .i64 L2.seq, .int .i64 L2.used, .slice t5 L2.dirty.length t6] _ _ hst)
    have HLF := Lib.hid (HL9.out.apart (w' := u9.setRow (B + 2) #[.slice t1 L2.secs.length t2, .slice t3 L2.pend.length t4, .int .i64 (-1), .int .i64 L2.epoch, .int .i64 L2.seq, .int .i64 L2.used, .slice t5 L2.dirty.length t6]) hst (logNoText _ _ _ _ _ _ _ _ _ _ _ _ _) (by rw [setRow_size]; exact Nat.le_refl _) (fun k hk => setRow_other u9 (B + 2) k _ hk))
    have HBF := Lib.hid (below_setRow HBW9.out (show w.heap.size ≤ B + 2 by rw [HB.out]; omega) #[.slice t1 L2.secs.length t2, .slice t3 L2.pend.length t4, .int .i64 (-1), .int .i64 L2.epoch, .int .i64 L2.seq, .int .i64 L2.used, .slice t5 L2.dirty.length t6])
    go_wp2_with (first | (refine wpList_store_row rfl 29 _ _ rfl (B + 2) #[.slice t1 L2.secs.length t2, .slice t3 L2.pend.length t4, .int .i64 (-1), .int .i64 L2.epoch, .int .i64 L2.seq, .int .i64 L2.used, .slice t5 L2.dirty.length t6] rfl rfl 29 _ hst (by kernel_rfl) rfl (by simp [Value.oneCell']) ?_))
    refine bodyPost_ret (results_row_tmp rfl _ _ (B + 2) _ _ _ _ rfl HS.out Tryz.underlying29 rfl (by kernel_rfl)) rfl (by first | exact ⟨_, rfl, L2.pow (-1), HLF.out, HBF.out, HY.out⟩ | exact ⟨_, L2.pow (-1), rfl, HLF.out, HBF.out, HY.out⟩)
end Go.Proofs.YthnmnnlbglpjaaaGreatDoor
