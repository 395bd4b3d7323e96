/- The walk of EmitNames. -/
import Derived.Test.YtnlmdajoifjddaaEmS
import Derived.Test.YtnlmdajoifjddaaEmJ
import Derived.Test.YtnlmdajoifjddaaExtG
import Derived.BigRegion
namespace Go.Proofs.Ytnlmdajoifjddaa.lawEmitNames
open Go.ChangeShapes Go.WideShapes Go.ChangeAt Go.RowKit Go.Joins Go.Deep
set_option linter.unusedVariables false

def nm (by' : Int) (T : Int) : Int := 3 * T + by'
theorem nm_inj (b : Int) : ∀ x y, nm b x = nm b y → x = y := by intro x y h; unfold nm at h; omega
theorem ren_V (b : Int) (l : List Stp) : asmV (l.map (renT (nm b))) = asmV l ∧ asmE (l.map (renT (nm b))) = asmE l := by
  unfold asmV asmE
  rcases asmA_ren (nm b) (nm_inj b) l with ⟨h1, h2⟩ | ⟨s, u, h1, h2, h3⟩
  · rw [h1, h2]; exact ⟨rfl, rfl⟩
  · rw [h1, h2]; exact ⟨h3.c, rfl⟩
theorem lab_V (T : Int) (l : List Stp) : asmV (⟨6, 0, T, 0⟩ :: l) = asmV l ∧ asmE (⟨6, 0, T, 0⟩ :: l) = asmE l := by
  have h : asmA (⟨6, 0, T, 0⟩ :: l) = (asmA l).bind fun s => s.step ⟨6, 0, T, 0⟩ := rfl
  unfold asmV asmE
  rw [h]
  cases asmA l with
  | none => exact ⟨rfl, rfl⟩
  | some s => exact ⟨rfl, rfl⟩
/-- the first i renamed -/
def half (b : Int) (l : List Stp) (i : Nat) : List Stp := (l.take i).map (renT (nm b)) ++ l.drop i
theorem half_zero (b : Int) (l : List Stp) : half b l 0 = l := by simp [half]
theorem half_all (b : Int) (l : List Stp) (n : Nat) (h : l.length = n) : half b l n = l.map (renT (nm b)) := by
  unfold half; rw [List.take_of_length_le (by omega), List.drop_of_length_le (by omega), List.append_nil]
theorem half_len (b : Int) (l : List Stp) (i : Nat) : (half b l i).length = l.length := by
  unfold half; rw [List.length_append, List.length_map, List.length_take, List.length_drop]; omega
theorem half_at (b : Int) (l : List Stp) (i : Nat) (h : i < l.length) : (half b l i).getD i stpZ = l.getD i stpZ := by
  unfold half
  simp only [List.getD]
  rw [List.getElem?_append_right (by simp; omega)]
  simp [Nat.min_eq_left (Nat.le_of_lt h)]
theorem half_succ (b : Int) (l : List Stp) (i : Nat) (h : i < l.length) : half b l (i + 1) = (half b l i).set i (renT (nm b) (l.getD i stpZ)) := by
  unfold half
  have e1 : ((l.take i).map (renT (nm b))).length = i := by simp; omega
  rw [List.set_append_right _ _ (by omega), e1, Nat.sub_self, List.drop_eq_getElem_cons h, List.set_cons_zero, List.take_succ_eq_append_getElem h, List.map_append, List.append_assoc]
  simp [List.getD, h]
theorem cells_set (l : List Stp) (i : Nat) (t f : Int) (h : i < l.length) : stpCells (l.set i ⟨(l.getD i stpZ).kind, (l.getD i stpZ).k, t, f⟩) = ((stpCells l).set (i * 4 + 2) (.int .i64 t)).set (i * 4 + 3) (.int .i64 f) := by
  induction l generalizing i with
  | nil => simp at h
  | cons a l ih =>
    cases i with
    | zero => simp [stpCells, Stp.cells]
    | succ i =>
      have := ih i (by simpa using h)
      show stpCells (a :: l.set i ⟨(l.getD i stpZ).kind, (l.getD i stpZ).k, t, f⟩) = _
      rw [stpCells, List.flatMap_cons, ← stpCells, this]
      simp only [stpCells, List.flatMap_cons]
      have ha : ∀ (x : Value) (c : List Value) (j : Nat), (a.cells ++ c).set ((i + 1) * 4 + j) x = a.cells ++ c.set (i * 4 + j) x := by
        intro x c j
        rw [List.set_append_right _ _ (by simp [Stp.cells]; omega), show (i + 1) * 4 + j - a.cells.length = i * 4 + j from by simp [Stp.cells]; omega]
      rw [ha, ha]
def near (o : Stp) : Prop := (o.t ≤ 1099511627776 ∧ -1099511627776 ≤ o.t) ∧ o.f ≤ 1099511627776 ∧ -1099511627776 ≤ o.f
theorem near_ren (b : Int) (h1 : -1000 ≤ b) (h2 : b ≤ 1000) (l : List Stp) (n : Nat) (hl : l.length = n) (hb : ∀ i ∈ l, i.bounded) (hn : ∀ j, j < n → near (l.getD j stpZ)) : ∀ o ∈ l.map (renT (nm b)), o.bounded := by
  intro o ho
  obtain ⟨x, hx, rfl⟩ := List.mem_map.1 ho
  obtain ⟨j, hj, rfl⟩ := List.mem_iff_getElem.1 hx
  have hnj := hn j (by omega)
  rw [show l.getD j stpZ = l[j] from by simp [List.getD, hj]] at hnj
  obtain ⟨⟨a1, a2⟩, a3, a4⟩ := hnj
  obtain ⟨c1, c2, _, _⟩ := hb _ hx
  refine ⟨c1, c2, ?_, ?_⟩
  · show -9223372036854775808 ≤ nm b l[j].t ∧ nm b l[j].t ≤ 9223372036854775807
    unfold nm; omega
  · show -9223372036854775808 ≤ nm b l[j].f ∧ nm b l[j].f ≤ 9223372036854775807
    unfold nm; omega
set_option maxRecDepth 100000 in
set_option maxHeartbeats 4000000 in
theorem walk (v0 : Value) (l0 : List Stp) (b0 : Int) (w : World) (w0 : IsOps w v0 l0) (w1 : (Lit.int .i64 b0).wf = true) :
    Calls Try.prog 6 #[v0, .int .i64 b0] w fun e w' => e = .returned (.bool true) ∧ Below w.heap.size w w' := by
  obtain ⟨iO, hiO, hzO0, hzO1, hzO2⟩ := info_parts infoOp
  have wb := wf_i64 w1
  clear w1
  obtain ⟨a, len, cap, rfl, hlen, hc1, hc2, htk⟩ := w0.take
  obtain ⟨n, hn, hn1, hn2, hn3⟩ := min_if len 200 (by omega)
  have hmi : min (len : Int) 200 = n := by omega
  have hl := htk n hn1
  have hll : (l0.take n).length = n := by rw [List.length_take]; omega
  generalize l0.take n = l at *
  have hncI : (n : Int) ≤ cap := by omega
  have hcI : (cap : Int) ≤ 9223372036854775807 := by omega
  have hbl := hl.bnd
  have HL := Lib.hid hl; have HLL := Lib.hid hll; have HBL := Lib.hid hbl
  clear htk w0 hlen hl hn3 hll hbl
  obtain ⟨b1, hb1, hbr1⟩ : ∃ b1 : Int, (if b0 < -1000 then -1000 else b0) = b1 ∧ -1000 ≤ b1 := ⟨_, rfl, by omega⟩
  obtain ⟨b, hb, hbr2, hbr3⟩ : ∃ b : Int, (if 1000 < b1 then 1000 else b1) = b ∧ -1000 ≤ b ∧ b ≤ 1000 := ⟨_, rfl, by omega, by omega⟩
  have hbm1 : max b0 (-1000) = b1 := by omega
  have hbm : min b1 1000 = b := by omega
  go_enter Try.func6, Try.ntmps6
  go_upto_region 3 with fail
  have hown0 : (w.alloc (.cells #[] 32)).ownsRow w.heap.size 32 4 (.slice (some ⟨w.heap.size, 0, none⟩) 0 0) 0 [] := World.ownsRow_made w #[] 0 (Nat.le_refl _) (by unfold maxLen; omega) rfl
  have hw4 := (Below.refl w.heap.size w).alloc (Nat.le_refl _) (.cells #[] 32)
  have hs1 := ops_source (HL.out.below hw4)
  have hlc1 : (stpCells l).length = n * 4 := by rw [stpCells_len, HLL.out]
  have HLN := Lib.hid hlc1; have HOW := Lib.hid hown0; have HS1 := Lib.hid hs1
  clear hlc1 hown0 hs1
  go_upto_region 4 with (first | (at_builtin; go_must (refine wpList_extend _ _ 22 32 (stpCells l) HOW.out hw4 (Nat.le_refl _) Try.underlying22 hiO hzO0 hzO1 hzO2 rfl (by decide) rfl rfl rfl rfl HS1.out HLN.out (stpCells_one l) ?c2 ?_)))
  case c2 => omega
  intro v4 w5 hown4 hb5
  have hw5 := hb5
  have hown4 : w5.ownsRow w.heap.size 32 4 v4 n (stpCells (half b l 0)) := by
    rw [half_zero]; simpa using hown4
  obtain ⟨A4, c4, rfl⟩ : ∃ A c, v4 = .slice A n c := by
    rcases hown4.2 with ⟨h, h0⟩ | ⟨g, cap, cur, h, _⟩
    · exact ⟨none, 0, by rw [h, h0]⟩
    · exact ⟨_, _, h⟩
  have HW5 := Lib.hid hw5; have HO4 := Lib.hid hown4
  clear hw4 HOW HS1 hown4 hb5 hw5 hb1 hb hbm1 hbm
  go_wp2_with fail
  go_loopw [27] (fun z wr => ∃ i : Nat, z = .int .i64 i ∧ i ≤ n ∧ wr.ownsRow w.heap.size 32 4 (.slice A4 n c4) n (stpCells (half b l i)) ∧ Below w.heap.size w wr ∧ ∀ j, j < i → near (l.getD j stpZ)) (fun z _ => n - (intOf z).toNat)
  case atStart => exact ⟨0, rfl, Nat.zero_le _, HO4.out, HW5.out, fun j hj => absurd hj (Nat.not_lt_zero j)⟩
  case round =>
    obtain ⟨i, rfl, hi, hown, hbel, hnear⟩ := hrel
    have HOWN := Lib.hid hown; have HBEL := Lib.hid hbel; have HNEAR := Lib.hid hnear
    clear hown hbel hnear
    by_cases hlt : i < n
    · have hltI : (i : Int) < n := by omega
      obtain ⟨g, hg, hgb⟩ : ∃ g, A4 = some ⟨g, 0, none⟩ ∧ w.heap.size ≤ g := by
        rcases HOWN.out.2 with ⟨h, h0⟩ | ⟨g, cap, cur, h, hgg, _⟩
        · omega
        · injection h with h _ _
          exact ⟨g, h, hgg⟩
      subst hg
      have hat : ∀ j, j < 4 → wr.cell? ⟨g, i * 4 + j, none⟩ = (l.getD i stpZ).cells[j]? := fun j hj => by
        rw [HOWN.out.cellAt (i * 4 + j) (by omega), stpCells_at (half b l i) i j (by rw [half_len, HLL.out]; exact hlt) hj, half_at b l i (by rw [HLL.out]; exact hlt)]
      have hbo : (l.getD i stpZ).bounded := by
        rw [List.getD_eq_getElem?_getD, List.getElem?_eq_getElem (by rw [HLL.out]; exact hlt)]
        exact HBL.out _ (List.getElem_mem _)
      have hfz := fun j => HOWN.out.frozenAt j
      have hsucc : stpCells (half b l (i + 1)) = ((stpCells (half b l i)).set (i * 4 + 2) (.int .i64 (nm b (l.getD i stpZ).t))).set (i * 4 + 3) (.int .i64 (nm b (l.getD i stpZ).f)) := by
        rw [half_succ b l i (by rw [HLL.out]; exact hlt), ← cells_set _ i _ _ (by rw [half_len, HLL.out]; exact hlt), half_at b l i (by rw [HLL.out]; exact hlt)]
        rfl
      have hnx : near (l.getD i stpZ) → ∀ j, j < i + 1 → near (l.getD j stpZ) := fun h j hj => by
        by_cases e : j < i
        · exact HNEAR.out j e
        · obtain rfl : j = i := by omega
          exact h
      have HNX := Lib.hid hnx
      clear hnx
      generalize l.getD i stpZ = o at *
      obtain ⟨kind, k, t, f⟩ := o
      obtain ⟨bk, bk2, bt, bf⟩ := hbo
      dsimp only at bk bk2 bt bf hsucc
      have c0 : wr.cell? ⟨g, i * 4, none⟩ = some (.int .i64 kind) := hat 0 (by omega)
      have c1 : wr.cell? ⟨g, i * 4 + 1, none⟩ = some (.int .u32 (k : Nat)) := hat 1 (by omega)
      have c2 : wr.cell? ⟨g, i * 4 + 2, none⟩ = some (.int .i64 t) := hat 2 (by omega)
      have c3 : wr.cell? ⟨g, i * 4 + 3, none⟩ = some (.int .i64 f) := hat 3 (by omega)
      have HS := Lib.hid hsucc; have HFZ := Lib.hid hfz
      clear hat hsucc hfz
      by_cases hin : (t ≤ 1099511627776 ∧ -1099511627776 ≤ t) ∧ f ≤ 1099511627776 ∧ -1099511627776 ≤ f
      · have HNB := Lib.hid (HNX.out hin)
        obtain ⟨⟨i1, i2⟩, i3, i4⟩ := hin
        go_upto_region 9 with fail
        have hO7 := HOWN.out.alloc (.cells #[.int .i64 kind, .int .u32 (k : Nat), .int .i64 t, .int .i64 f] 32)
        have hb7 := HBEL.out.alloc HBEL.out.size (.cells #[.int .i64 kind, .int .u32 (k : Nat), .int .i64 t, .int .i64 f] 32)
        have hnw := heap_alloc_new wr (.cells #[.int .i64 kind, .int .u32 (k : Nat), .int .i64 t, .int .i64 f] 32)
        have q2 := below_cell (Below.refl _ _) hnw 2 rfl
        have q3 := below_cell (Below.refl _ _) hnw 3 rfl
        have hbw := (Below.refl wr.heap.size wr).alloc (Nat.le_refl _) (.cells #[.int .i64 kind, .int .u32 (k : Nat), .int .i64 t, .int .i64 f] 32)
        have hglt := (HOWN.out.lt g rfl).2
        have p2 := (hbw.cell (p := ⟨g, i * 4 + 2, none⟩) hglt).trans c2
        have p3 := (hbw.cell (p := ⟨g, i * 4 + 3, none⟩) hglt).trans c3
        have f2 := hO7.frozenAt (i * 4 + 2)
        have f3 := hO7.frozenAt (i * 4 + 3)
        generalize wr.alloc (.cells #[.int .i64 kind, .int .u32 (k : Nat), .int .i64 t, .int .i64 f] 32) = wq at *
        have HO7 := Lib.hid hO7; have HB7 := Lib.hid hb7
        have e2 : nm b t = 3 * t + b := rfl
        have e3 : nm b f = 3 * f + b := rfl
        have E2 := Lib.hid e2; have E3 := Lib.hid e3
        clear hO7 hb7 hnw hbw hglt HOWN HBEL c0 c1 c2 c3 e2 e3
        go_region
        go_wp2_with fail
        go_roundw
        case rel =>
          refine ⟨i + 1, by go_num, by omega, ?_, ((HB7.out.setCell (p := ⟨g, i * 4 + 2, none⟩) hgb _).setCell (p := ⟨g, i * 4 + 3, none⟩) hgb _).drew, HNB.out⟩
          rw [HS.out, E2.out, E3.out]
          exact ((HO7.out.stored (i * 4 + 2) _).1.stored (i * 4 + 3) _).1.drew
        case measure => simp [intOf]; omega
      · have hcs : 1099511627776 < t ∨ (t ≤ 1099511627776 ∧ t < -1099511627776) ∨ ((t ≤ 1099511627776 ∧ -1099511627776 ≤ t) ∧ 1099511627776 < f) ∨ ((t ≤ 1099511627776 ∧ -1099511627776 ≤ t) ∧ f ≤ 1099511627776 ∧ f < -1099511627776) := by omega
        rcases hcs with j1 | ⟨j1, j2⟩ | ⟨⟨j1, j2⟩, j3⟩ | ⟨⟨j1, j2⟩, j3, j4⟩
        all_goals
          clear hin HS
          have hb7 := HBEL.out.alloc HBEL.out.size (.cells #[.int .i64 kind, .int .u32 (k : Nat), .int .i64 t, .int .i64 f] 32)
          have HB7 := Lib.hid hb7
          clear hb7
          go_wp2_with fail
          refine (emAlive _).mono ?_
          rintro e w9 ⟨rfl, hb9⟩
          have HW9 := Lib.hid (HB7.out.trans (hb9.mono HB7.out.size))
          clear hb9
          go_wp2_with fail
          go_ret
          exact ⟨rfl, HW9.out⟩
    · obtain rfl : i = n := by omega
      have hown := HOWN.out
      rw [half_all b l i HLL.out] at hown
      have hO := own_ops hown (by rw [List.length_map, HLL.out]) (near_ren b hbr2 hbr3 l i HLL.out HBL.out HNEAR.out)
      have HO := Lib.hid hO
      clear hO hown HOWN
      have hA := fun u hu => asm_few l (.slice a i cap) u hu (by have := HLL.out; omega)
      have hB := fun u hu => asm_few (l.map (renT (nm b))) (.slice A4 i c4) u hu (by rw [List.length_map]; have := HLL.out; omega)
      have hC := fun v u hu => asm_few (⟨6, 0, 2199023255552, 0⟩ :: l) v u hu (by have := HLL.out; simp; omega)
      have hrV := ren_V b l
      have hlV := lab_V 2199023255552 l
      have HA := Lib.hid hA; have HB := Lib.hid hB; have HC := Lib.hid hC; have HRV := Lib.hid hrV; have HLV := Lib.hid hlV
      clear hA hB hC hrV hlV HNEAR
      go_upto_region 11 with fail
      go_wp2_with fail
      refine (HA.out _ (HL.out.below HBEL.out)).mono ?_
      rintro e1 w6 ⟨hp1, hb6⟩
      obtain ⟨va, rfl, hIa, hNa⟩ := hp1.both
      have HBa := Lib.hid (HBEL.out.trans (hb6.mono HBEL.out.size))
      have HO6 := Lib.hid (HO.out.below hb6)
      have HIA := Lib.hid hIa
      clear hp1 hb6 hIa HA HO
      go_wp2_with fail
      refine (HB.out _ HO6.out).mono ?_
      rintro e2 w7 ⟨hp2, hb7⟩
      obtain ⟨vb, rfl, hIb, hNb⟩ := hp2.both
      rw [HRV.out.1] at hIb
      rw [HRV.out.2]
      have HBb := Lib.hid (HBa.out.trans (hb7.mono HBa.out.size))
      have HIA7 := Lib.hid (HIA.out.below hb7)
      have HIB := Lib.hid hIb
      clear hp2 hb7 hIb hNb HB HO6 HIA
      have hown9 : (w7.alloc (.cells #[.int .i64 6, .int .u32 0, .int .i64 2199023255552, .int .i64 0] 32)).ownsRow w7.heap.size 32 4 (.slice (some ⟨w7.heap.size, 0, none⟩) 1 1) 1 (stpCells [⟨6, 0, 2199023255552, 0⟩]) := World.ownsRow_lit w7 #[.int .i64 6, .int .u32 0, .int .i64 2199023255552, .int .i64 0] 1 (Nat.le_refl _) (by unfold maxLen; omega) rfl
      have hw9 := (Below.refl w7.heap.size w7).alloc (Nat.le_refl _) (.cells #[.int .i64 6, .int .u32 0, .int .i64 2199023255552, .int .i64 0] 32)
      have hs9 := ops_source ((HL.out.below HBb.out).below hw9)
      have HOW9 := Lib.hid hown9; have HS9 := Lib.hid hs9
      clear hown9 hs9
      go_wp2_with (first | (at_builtin; go_must (refine wpList_extend _ _ 22 32 (stpCells l) HOW9.out hw9 (Nat.le_refl _) Try.underlying22 hiO hzO0 hzO1 hzO2 rfl (by decide) rfl rfl rfl rfl HS9.out HLN.out (stpCells_one l) ?c9 ?_)))
      case c9 => omega
      intro v10 w10 hown10 hb10
      have hO10 : IsOps w10 v10 (⟨6, 0, 2199023255552, 0⟩ :: l) := by
        refine own_ops (base := w7.heap.size) (n := 1 + i) ?_ (by simp [HLL.out]; omega) ?_
        · rw [← stpCells_append] at hown10
          exact hown10
        · intro o ho
          rcases List.mem_cons.1 ho with rfl | ho
          · unfold Stp.bounded; simp only; omega
          · exact HBL.out o ho
      have hC10 := HC.out v10 w10 hO10
      have HC10 := Lib.hid hC10; have HW10 := Lib.hid hb10
      clear hw9 HOW9 HS9 hown10 hO10 hC10 hb10 HC
      go_wp2_with fail
      refine HC10.out.mono ?_
      rintro e3 w11 ⟨hp3, hb11⟩
      obtain ⟨vc, rfl, hIc, hNc⟩ := hp3.both
      rw [HLV.out.1] at hIc
      rw [HLV.out.2]
      have HX11 := Lib.hid (HW10.out.trans (hb11.mono HW10.out.size))
      have HIC := Lib.hid hIc
      clear hp3 hb11 hIc hNc HC10 HW10
      generalize asmE l = eE at *
      go_wp2_with fail
      refine (emAlive _).mono ?_
      rintro e w12 ⟨rfl, hb12⟩
      have HX12 := Lib.hid (HX11.out.trans (hb12.mono HX11.out.size))
      have HIC12 := Lib.hid (HIC.out.below hb12)
      clear hb12 HX11 HIC
      have hlk1 := refLike_any va vb (asmV l) (asmV l) w12 ((HIA7.out.below HX12.out).1) ((HIB.out.below HX12.out).1)
      rw [decide_eq_true rfl] at hlk1
      have HK1 := Lib.hid hlk1
      clear hlk1
      go_wp2_with fail
      refine HK1.out.mono ?_
      rintro e w13 ⟨rfl, hb13⟩
      have HX13 := Lib.hid (HX12.out.trans (hb13.mono HX12.out.size))
      have HIC13 := Lib.hid (HIC12.out.below hb13)
      clear hb13 HIC12
      have hlk2 := refLike_any va vc (asmV l) (asmV l) w13 ((HIA7.out.below HX13.out).1) (HIC13.out.1)
      rw [decide_eq_true rfl] at hlk2
      have HK2 := Lib.hid hlk2
      clear hlk2
      go_wp2_with fail
      refine HK2.out.mono ?_
      rintro e w14 ⟨rfl, hb14⟩
      have HX14 := Lib.hid (HX13.out.trans (hb14.mono HX13.out.size))
      go_wp2_with fail
      go_ret
      exact ⟨rfl, HBb.out.trans (HX14.out.mono HBb.out.size)⟩
end Go.Proofs.Ytnlmdajoifjddaa.lawEmitNames
