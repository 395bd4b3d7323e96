/- blob.Lay. -/
import Derived.Test.YtimiooiaohfelaaDoorBl2
import Derived.Test.YtimiooiaohfelaaDoorWcells
import Derived.Test.YtimiooiaohfelaaDoorRoomT
import Derived.Test.YtimiooiaohfelaaDoorRoomMath
import Derived.Test.YtimiooiaohfelaaDoorShelf
import Derived.Deep.AppendLies
import Derived.Test.YtimiooiaohfelaaDoorInRnd
import Derived.Deep.RegionHeld
namespace Go.Proofs.YtimiooiaohfelaaDoor
open Go.RowKit Go.Shelf
attribute [local go_sem] Oper.semAt_some
set_option linter.unusedVariables false
set_option linter.unusedSimpArgs false

theorem tk_lt (l : List Bool) (m : Nat) : ∀ k, ∀ x ∈ (tk l m k).2, x < k
  | 0, x, h => by simp [tk] at h
  | k + 1, x, h => by
    rw [tk] at h
    split at h
    · rcases List.mem_append.1 h with h | h
      · exact Nat.lt_succ_of_lt (tk_lt l m k x h)
      · rw [List.mem_singleton.1 h]; exact Nat.lt_succ_self _
    · exact Nat.lt_succ_of_lt (tk_lt l m k x h)
def layT (l : List Bool) (d : ByteArray) : List Bool × List Nat := if 40 < needN d.size then ([], []) else takeR l (needN d.size : Nat)
def layE (l : List Bool) (d : ByteArray) : Int := if 40 < needN d.size then 30 else takeE l (needN d.size : Nat)
/-- the i-th write -/
def layW (got : List Nat) (d : ByteArray) (i : Nat) : Wrt := ⟨(got.getD i 0 : Nat), secS (got.getD (i + 1) 0) (partS d i)⟩
def wrtsL (got : List Nat) (d : ByteArray) : List Wrt := (List.range got.length).map (layW got d)
theorem layT_bad (l : List Bool) (d : ByteArray) (h : layE l d ≠ 0) : layT l d = ([], []) := by
  unfold layT layE at *
  split
  · rfl
  · rename_i h2
    rw [if_neg h2] at h
    unfold takeR
    rw [if_neg h]
theorem layT_ok (l : List Bool) (d : ByteArray) (h : layE l d = 0) : layT l d = tk l (needN d.size) l.length ∧ (layT l d).2.length = needN d.size ∧ needN d.size ≤ 40 ∧ rightB l = true ∧ needN d.size ≤ freeN l := by
  unfold layT layE at *
  by_cases h40 : 40 < needN d.size
  · rw [if_pos h40] at h; cases h
  · rw [if_neg h40] at h ⊢
    have e : takeR l (needN d.size : Nat) = tk l (needN d.size) l.length := by unfold takeR; rw [if_pos h]; rfl
    unfold takeE at h
    by_cases hr : rightB l = true
    · rw [if_pos ⟨hr, by omega⟩] at h
      by_cases hf : (freeN l : Int) < (needN d.size : Nat)
      · rw [if_pos hf] at h; cases h
      · refine ⟨e, ?_, by omega, hr, by omega⟩
        rw [e, tk_count _ _ _ (Nat.le_refl _), List.take_length]; omega
    · rw [if_neg (fun h => hr h.1)] at h; cases h
theorem layT_lt (l : List Bool) (d : ByteArray) : ∀ x ∈ (layT l d).2, x < 256 := by
  intro x hx
  by_cases h : layE l d = 0
  · obtain ⟨e, _, _, hr, _⟩ := layT_ok l d h
    rw [e] at hx
    have := tk_lt _ _ _ x hx
    have := (rightB_len hr).2
    omega
  · rw [layT_bad l d h] at hx; cases hx
def LayPost (E : Int) (r : List Bool × List Nat) (d : ByteArray) (w : World) (e : Ending) (w' : World) : Prop :=
  ∃ v1 v2, e = .returned (.tuple #[v1, .int .i64 (r.2.getD 0 0 : Nat), v2, .int .i64 E]) ∧ IsBools w' v1 r.1 ∧ IsWrts w' v2 (wrtsL r.2 d) ∧ Below w.heap.size w w'

theorem results_tmp4 {fn : Func} {t u v x : Tmp} (h : fn.results = #[.tmp t, .tmp u, .tmp v, .tmp x]) (tmps : Array Value) (P : Program) (w : World) :
    (results fn tmps).run P w = .ok (.tuple #[tmps.getD t undef, tmps.getD u undef, tmps.getD v undef, tmps.getD x undef]) w := by
  simp [results, h]
theorem next_get (L : List Nat) (n : Nat) (hl : L.length = n) (h1 : 1 ≤ n) (j : Nat) (hj : j < n) : ((L.drop 1 ++ [0]).map natV)[j]? = some (.int .i64 (L.getD (j + 1) 0 : Nat)) := by
  rw [List.getElem?_map]
  by_cases h : j + 1 < n
  · rw [List.getElem?_append_left (by simp; omega), List.getElem?_drop]
    have h3 : j + 1 < L.length := by omega
    simp [natV, List.getD, h3, Nat.add_comm 1 j]
  · have h2 : j + 1 = n := by omega
    rw [List.getElem?_append_right (by simp; omega)]
    have h3 : j - (L.drop 1).length = 0 := by simp; omega
    rw [h3]
    simp [natV, List.getD, show L[j + 1]? = none from List.getElem?_eq_none (by omega)]
theorem own_fits {w w' : World} {base : Nat} {e : TypeId} {size : Nat} {v : Value} {n : Nat} {xs : List Value} (h : w.ownsRow base e size v n xs) (hb : Below w.heap.size w w') : w'.ownsRow base e size v n xs := by
  refine ⟨h.1, h.2.imp id ?_⟩
  rintro ⟨g, cap, cur, rfl, hg, hh, hr⟩
  exact ⟨g, cap, cur, rfl, hg, (hb.block g (lt_of_block hh)).trans hh, hr⟩
/-- what lay in W4, but a row of T's and the box at B, lies as it lay -/
def KX (W4 : World) (B : Nat) (T : TypeId) (W : World) : Prop := ∀ k cs T', W4.heap[k]? = some (.cells cs T' (0, 0)) → T' ≠ T → k ≠ B → W.heap[k]? = some (.cells cs T' (0, 0))
theorem KX.own (W4 : World) (B : Nat) (T : TypeId) : Own fun (_ : List Nat) W => KX W4 B T W := by
  intro s X Y row h hg hr k cs T' hk hT hB
  have hX := h k cs T' hk hT hB
  exact (hg.block k (lt_of_block hX) (fun e => by
    obtain ⟨o, ho, hc⟩ := hr k e.symm
    rw [hX] at ho; cases ho; cases hc)).trans hX
theorem wrts_kept {W W' : World} {v : Value} {l : List Wrt} {row : Option Nat} (h : IsWrts W v l) (hg : W.grownBy W' row) (hr : ∀ r, row = some r → ∃ o, W.heap[r]? = some o ∧ o.isCells = false) : IsWrts W' v l := by
  obtain ⟨a, len, cap, rfl, hlen, hc1, hc2, hbd, hat⟩ := h
  refine ⟨a, len, cap, rfl, hlen, hc1, hc2, hbd, hat.imp id ?_⟩
  rintro ⟨b, off, rfl, hlt, hat⟩
  exact ⟨b, off, rfl, Nat.lt_of_lt_of_le hlt hg.size, fun i hi => ⟨cell_kept (hat i hi).1 hg hr, cell_kept (hat i hi).2 hg hr⟩⟩
theorem lay_nil (d : ByteArray) (E : Int) (w : World) : LayPost E ([], []) d w (.returned (.tuple #[.slice none 0 0, .int .i64 0, .slice none 0 0, .int .i64 E])) w :=
  ⟨_, _, rfl, bools_nil w, nilWrts w, Below.refl _ _⟩
theorem lay_nil_at (d : ByteArray) (E : Int) {w w' : World} (hb : Below w.heap.size w w') : LayPost E ([], []) d w (.returned (.tuple #[.slice none 0 0, .int .i64 0, .slice none 0 0, .int .i64 E])) w' :=
  ⟨_, _, rfl, bools_nil w', nilWrts w', hb⟩

attribute [-go_sem] Builtin.append_
set_option maxRecDepth 100000 in
set_option maxHeartbeats 2000000 in
theorem blobLay_in (n : Nat) (hn : 3 ≤ n) (v : Value) (l : List Bool) (d : ByteArray) (w : World) (h : IsBools w v l) (hd : d.size ≤ 30000) :
    CallsIn Fence.wide n Tryd.prog 15 #[v, .string d] w (LayPost (layE l d) (layT l d) d w) := by
  obtain ⟨i0, hi, hz0, hz1, hz2⟩ := info_parts infoInt
  obtain ⟨i1, hi1, hy0, hy1, hy2⟩ := info_parts infoWrt
  have h1 : 1 ≤ n := by omega
  have hdI : (d.size : Int) ≤ 30000 := by omega
  have HN := Lib.hid (fun u => blobNeed_any d.size u (by omega))
  rw [needZ_nat] at HN
  have HH := Lib.hid h
  obtain ⟨a, len, cap, rfl, hlen, hc1, hc2, hat⟩ := h
  have hlb : needN d.size ≤ 61 := by unfold needN; omega
  have HLB := Lib.hid hlb
  clear hat hlb
  refine callsIn_of_wp_marks Tryd.func15 rfl trivial ?_ rfl
  simp only [Tryd.ntmps15, List.size_toArray, List.length_cons, List.length_nil, Nat.reduceAdd, Nat.reduceSub, Array.replicate_succ, Array.replicate_zero, List.push_toArray, List.append_toArray, List.nil_append, List.cons_append]
  by_cases hm : 40 < needN d.size
  · have e1 : layE l d = 30 := by unfold layE; rw [if_pos hm]
    have e2 : layT l d = ([], []) := by unfold layT; rw [if_pos hm]
    rw [e1, e2]
    clear e1 e2
    generalize needN d.size = N at *
    have hmI : 40 < (N : Int) := by omega
    refine wpIn_wide.2 ?_
    go_wp2_with (first | (go_at_call 35; refine (HN.out _).mono ?_; rintro e w1 ⟨rfl, rfl⟩))
    refine ⟨_, results_tmp4 rfl _ _ _, ?_⟩
    exact ⟨_, _, rfl, bools_nil w, nilWrts w, Below.refl _ _⟩
  · have HT := Lib.hid (fun u hu => roomTake_any (.slice a len cap) l (needN d.size : Nat) u hu)
    have e1 : layE l d = takeE l (needN d.size : Nat) := by unfold layE; rw [if_neg hm]
    have e2 : layT l d = takeR l (needN d.size : Nat) := by unfold layT; rw [if_neg hm]
    rw [← e1, ← e2] at HT
    have hbad := layT_bad l d
    have hok := layT_ok l d
    have hlt := layT_lt l d
    clear e1 e2
    have HBAD := Lib.hid hbad; have HOK := Lib.hid hok; have HLT := Lib.hid hlt
    clear hbad hok hlt
    generalize hN : needN d.size = N at *
    have HNE := Lib.hid hN
    have hmI : (N : Int) ≤ 40 := by omega
    clear hN hm
    generalize layE l d = E at *
    generalize layT l d = R at *
    refine wpIn_wide.2 ?_
    by_cases hE : E = 0
    · obtain ⟨hR, hRl, h40, hr, hf⟩ := HOK.out hE
      subst hE
      have hlt := HLT.out
      have HR := Lib.hid hR
      clear hR HBAD HOK HLT hr hf
      go_upto_region 8 with (first | (go_at_call 35; refine (HN.out _).mono ?_; rintro e w1 ⟨rfl, rfl⟩) | (go_at_call 36; refine (HT.out _ HH.out).mono ?_; rintro e w1 ⟨v1, v2, rfl, hv1, ⟨a2, n2, c2, rfl, hl2, hcc1, hcc2, hat2⟩, hb1, hnk⟩))
      have hN1 : 1 ≤ N := by have := HNE.out; unfold needN at this; omega
      obtain rfl : n2 = N := by omega
      obtain ⟨b2, o2, rfl, hb2, hat2⟩ := hat2.resolve_left (by omega)
      have hcell : ∀ j, j < n2 → w1.cell? ⟨b2, o2 + j, none⟩ = some (.int .i64 (R.2.getD j 0 : Nat)) := fun j hj => by
        have hj2 : j < R.2.length := by omega
        rw [hat2 j hj2]; simp [natV, List.getD, hj2]
      have bS := (Boxed.new w1 31 (.slice (some ⟨b2, o2, none⟩) n2 c2)).alloc (.cells #[.slice none 0 0] 23)
      have bO := Boxed.new (w1.alloc (.cells #[.slice (some ⟨b2, o2, none⟩) n2 c2] 31)) 23 (.slice none 0 0)
      simp only [World.size_alloc] at bO
      have hbW : Below w1.heap.size w1 ((w1.alloc (.cells #[.slice (some ⟨b2, o2, none⟩) n2 c2] 31)).alloc (.cells #[.slice none 0 0] 23)) := ((Below.refl _ w1).alloc (Nat.le_refl _) _).alloc (by simp) _
      have hsz2 : ((w1.alloc (.cells #[.slice (some ⟨b2, o2, none⟩) n2 c2] 31)).alloc (.cells #[.slice none 0 0] 23)).heap.size = w1.heap.size + 1 + 1 := by simp
      have hcW : ∀ j, j < n2 → ((w1.alloc (.cells #[.slice (some ⟨b2, o2, none⟩) n2 c2] 31)).alloc (.cells #[.slice none 0 0] 23)).cell? ⟨b2, o2 + j, none⟩ = some (.int .i64 (R.2.getD j 0 : Nat)) := fun j hj => (hbW.cell (p := ⟨b2, o2 + j, none⟩) hb2).trans (hcell j hj)
      have hvW := hv1.below hbW
      have hwW := hb1.trans (hbW.mono hb1.size)
      have hlt1 := hb1.size
      generalize (w1.alloc (.cells #[.slice (some ⟨b2, o2, none⟩) n2 c2] 31)).alloc (.cells #[.slice none 0 0] 23) = W2 at *
      clear hcell hat2 hb1 hnk HN HT HH
      generalize hB0 : w1.heap.size = B0 at *
      have HV1 := Lib.hid hv1; have HBW := Lib.hid hbW; have HB0 := Lib.hid hB0
      clear hv1 hbW hB0
      have hcc : n2 ≤ c2 := hcc1
      have hN1I : (1 : Int) ≤ n2 := by omega
      have hN2I : (n2 : Int) ≤ c2 := by omega
      have hc2I : (c2 : Int) ≤ 9223372036854775807 := by omega
      have HCl := Lib.hid (Tryd.slices_Clone_int b2 (o2 + 1) (n2 - 1) (c2 - 1) ((R.2.drop 1).map fun x : Nat => (x : Int)) W2 (by simp; omega) (by omega) (fun j hj => by
        have hj' : j < R.2.length - 1 := by simpa using hj
        have := hcW (j + 1) (by omega)
        rw [show o2 + 1 + j = o2 + (j + 1) from by omega, this]
        have h1 : j + 1 < R.2.length := by omega
        simp [List.getD, h1]))
      have HC := Lib.hid hcW; have HL := Lib.hid hl2; have HRl := Lib.hid hRl
      have hr1 := bS.cell; have hr2 := bO.cell
      clear hcW hl2 hRl hcc1 hcc2
      have HZ := Lib.hid (Tryd.slices_Clone_int_zero ⟨b2, o2, none⟩ 0 W2)
      have hnx : List.take (n2 - 1) (List.map (Value.int .i64 ∘ fun x : Nat => (x : Int)) R.2).tail ++ [Value.int .i64 0] = (R.2.drop 1 ++ [0]).map natV := by
        have := HRl.out
        rw [List.take_of_length_le (by simp; omega)]
        simp [natV, List.map_tail, Function.comp_def]
        rfl
      have hnz : n2 = 1 → [Value.int .i64 0] = (R.2.drop 1 ++ [0]).map natV := fun h => by
        have := HRl.out
        have e : R.2.drop 1 = [] := List.drop_eq_nil_of_le (by omega)
        rw [e]; rfl
      have HNX := Lib.hid hnx; have HNZ := Lib.hid hnz
      clear hnx hnz
      go_cut [13] from 31 to 35 (fun p wx => ∃ g v', p = .pointer (some ⟨g, 0, none⟩) ∧ wx.ownsRow (B0 + 1 + 1) 3 1 v' n2 ((R.2.drop 1 ++ [0]).map natV) ∧ Boxed wx g 31 v' ∧ B0 + 1 + 1 ≤ g ∧ Below (B0 + 1 + 1) W2 wx)
      case first =>
        by_cases hc21 : c2 = 1
        · obtain rfl : n2 = 1 := by omega
          subst hc21
          have hnz := HNZ.out rfl
          have HNZ2 := Lib.hid hnz
          clear hnz HNX HNZ HCl
          go_wp2_with (first | (go_at_call 37; refine (HZ.out).mono ?_; rintro e w3 ⟨cv, rfl, hown, hcv, hb3⟩) | (at_builtin; go_must (refine wpList_push2 _ _ 31 3 (.int .i64 0) hown hb3 (Nat.le_refl _) Tryd.underlying31 hi hz0 hz1 hz2 rfl rfl rfl rfl rfl rfl ?c1 ?_)))
          case c1 => decide
          intro v' w4 hown4 hb4 _
          rw [HNZ2.out] at hown4
          obtain ⟨A8, c8, rfl, _, _⟩ := own_form1 hown4
          go_wp2_with fail
          go_meet
          have hsz4 := hb4.size
          rw [hsz2] at hsz4
          exact ⟨_, _, rfl, hown4.alloc _, Boxed.new w4 _ _, hsz4, hb4.alloc hsz4 _⟩
        · have hc2I' : (1 : Int) < c2 := by omega
          clear HNZ HZ
          go_wp2_with (first | (go_at_call 37; refine (HCl.out).mono ?_; rintro e w3 ⟨cv, rfl, hown, hcv, hb3⟩) | (at_builtin; go_must (refine wpList_push2 _ _ 31 3 (.int .i64 0) hown hb3 (Nat.le_refl _) Tryd.underlying31 hi hz0 hz1 hz2 rfl rfl rfl rfl rfl rfl ?c2 ?_)))
          case c2 => omega
          intro v' w4 hown4 hb4 _
          rw [HNX.out] at hown4
          obtain ⟨A8, c8, rfl, _, _⟩ := own_form1 hown4
          go_wp2_with fail
          go_meet
          have hsz4 := hb4.size
          rw [hsz2] at hsz4
          exact ⟨_, _, rfl, hown4.alloc _, Boxed.new w4 _ _, hsz4, hb4.alloc hsz4 _⟩
      case rest =>
        obtain ⟨g, nv, rfl, hnx, bN, hg, hbN⟩ := hcut
        go_wp2_with (first | (go_at_call 38; refine (callsIn_wide.1 (parts_in n d _)).mono ?_; rintro e w4 ⟨rfl, rfl⟩))
        have hsW := hbN.size
        rw [hsz2] at hsW
        have hB0g : B0 < g := by omega
        have bS4 : Boxed wc B0 31 (.slice (some ⟨b2, o2, none⟩) n2 c2) := (hbN.block B0 (by omega)).trans bS
        have bO4 : Boxed wc (B0 + 1) 23 (.slice none 0 0) := (hbN.block (B0 + 1) (by omega)).trans bO
        have hcW4 : ∀ j, j < n2 → wc.cell? ⟨b2, o2 + j, none⟩ = some (.int .i64 (R.2.getD j 0 : Nat)) := fun j hj => (hbN.cell (p := ⟨b2, o2 + j, none⟩) (by show b2 < B0 + 1 + 1; omega)).trans (HC.out j hj)
        obtain ⟨gn, ncap, ncur, rfl, hgn1, hgn2, hgn3, hgn4, hgn5, hgn6⟩ : ∃ gn cap cur, nv = .slice (some ⟨gn, 0, none⟩) n2 cap ∧ B0 + 1 + 1 ≤ gn ∧ wc.heap[gn]? = some (.cells cur 3 (0, 0)) ∧ n2 ≤ cap ∧ cap ≤ 9223372036854775807 ∧ cur.size = cap ∧ ∀ j, j < n2 → cur[j]? = some (.int .i64 (R.2.getD (j + 1) 0 : Nat)) := by
          rcases hnx.2 with ⟨rfl, h0⟩ | ⟨gn, cap', cur, rfl, k1, k2, k3, k4, k5, k6⟩
          · omega
          · refine ⟨gn, cap', cur, rfl, k1, k2, k3, by unfold maxLen at k4; exact k4, by omega, fun j hj => ?_⟩
            have e := congrArg (fun L => L[j]?) k6
            simp only [List.getElem?_take] at e
            rw [if_pos (by omega), next_get R.2 n2 HRl.out hN1 j hj] at e
            rw [← Array.getElem?_toList]; exact e
        clear hnx HCl HZ HNX HNZ HC bS bO hr1 hr2
        have bS5 := bS4.alloc (.cells #[.string d] 9)
        have bO5 := bO4.alloc (.cells #[.string d] 9)
        have bN5 := bN.alloc (.cells #[.string d] 9)
        have bR5 := (Below.heap_alloc wc (.cells #[.string d] 9) _ (lt_of_block hgn2)).trans hgn2
        have bP5 := Boxed.new wc 9 (.string d)
        have hcW5 : ∀ j, j < n2 → (wc.alloc (.cells #[.string d] 9)).cell? ⟨b2, o2 + j, none⟩ = some (.int .i64 (R.2.getD j 0 : Nat)) := fun j hj => (((Below.refl _ wc).alloc (Nat.le_refl _) (.cells #[.string d] 9)).cell (p := ⟨b2, o2 + j, none⟩) (by show b2 < wc.heap.size; omega)).trans (hcW4 j hj)
        have hb5 : Below w.heap.size w (wc.alloc (.cells #[.string d] 9)) := (hwW.trans (hbN.mono (by omega))).alloc (by omega) _
        have hv5 : Below B0 w1 (wc.alloc (.cells #[.string d] 9)) := (HBW.out.trans (hbN.mono (by omega))).alloc (by omega) _
        have hs5 : (wc.alloc (.cells #[.string d] 9)).heap.size = wc.heap.size + 1 := by simp
        clear bS4 bO4 bN hgn2 hcW4 hbN hwW hvW
        have hPS := parts_stops (n - 1) (by omega) wc.heap.size d hd (wc.alloc (.cells #[.string d] 9)) bP5
        rw [HNE.out] at hPS
        have hbel0 : Below (wc.alloc (.cells #[.string d] 9)).heap.size (wc.alloc (.cells #[.string d] 9)) (wc.alloc (.cells #[.string d] 9)) := Below.refl _ _
        have HD := Lib.hid hPS
        clear hPS
        generalize hW4 : wc.alloc (.cells #[.string d] 9) = W4 at *
        clear hW4 bP5
        refine (wpIn_wide (n := n)).1 ?_
        refine wpIn_rangeFunc_ownG rfl h1 (gf := 53) (lb := #[.pointer (some ⟨wc.heap.size, 0, none⟩)]) rfl trivial (enters_of Tryd.func53 (by kernel_rfl) rfl)
          HD.out (fun h k v hv => k v (h v hv)) (fun W l o o' hl _ _ _ v hv => (World.putObj_heap_other (by omega)).trans hv) hbel0 (fun _ => rfl)
          (fun (pre : List Nat) W => ((∃ v, Boxed W (B0 + 1) 23 v ∧ W.ownsRow (B0 + 1) 49 2 v pre.length (wcells (pre.map fun x => layW R.2 d (cl n2 x))) ∧ True) ∧ KX W4 (B0 + 1) 49 W) ∧ Below (B0 + 1) W4 W)
          (fun _ _ _ => False)
          (OwnFrom.and (OwnFrom.and (Own.from (holdsRow_own (B0 + 1) (B0 + 1) 23 49 2 (fun pre : List Nat => pre.length) (fun pre : List Nat => wcells (pre.map fun x => layW R.2 d (cl n2 x))) (fun _ _ => True)) _) (Own.from (KX.own W4 (B0 + 1) 49) _)) (ownFrom_below (by omega) (by omega)))
          (fun _ _ _ _ _ hs _ _ => hs)
          ⟨⟨⟨_, bO5, World.ownsRow_nil _ _ _ _, trivial⟩, fun k cs T' hk _ _ => hk⟩, Below.refl _ _⟩
          (fun x : Nat => { tmps := #[.slice a len cap, .string d, undef, undef, .slice none 0 0, .int .i64 0, .slice none 0 0, .int .i64 0, .int .i64 (n2 : Nat), v1, .pointer (some ⟨B0, 0, none⟩), .int .i64 0, .pointer (some ⟨B0 + 1, 0, none⟩), .pointer (some ⟨g, 0, none⟩), .int .i64 (cl n2 x : Nat), .string (partS d (cl n2 x)), .string d, .int .i64 (d.size : Nat), .int .i64 (n2 : Nat), .int .i64 (n2 : Nat), .bool (decide (40 < (n2 : Int))), .tuple #[v1, .slice (some ⟨b2, o2, none⟩) n2 c2, .int .i64 0], .slice a len cap, .int .i64 (n2 : Nat), .tuple #[v1, .slice (some ⟨b2, o2, none⟩) n2 c2, .int .i64 0], v1, .slice (some ⟨b2, o2, none⟩) n2 c2, .int .i64 0, .int .i64 0, .bool false, undef, u31, u32, u33, u34, u35, .string d, .func (.func 53) #[] #[.pointer (some ⟨wc.heap.size, 0, none⟩)], .int .i64 (cl n2 x : Nat), .string (partS d (cl n2 x)), undef, undef, undef, undef, undef, undef, undef, undef, undef, undef, undef, undef, undef, undef, undef, undef, undef, undef, undef], defers := [] }) ?assign ?body ?done ?stop
        case assign =>
          intro l x W K hK
          gi_wp2
          exact hK
        case body =>
          rintro r pre x W ⟨⟨⟨v, hv, hrow, _⟩, hKX⟩, hB⟩ hlt'
          have hx : cl n2 x < n2 := cl_lt hN1
          have hsn : wcells ((pre ++ [x]).map fun x => layW R.2 d (cl n2 x)) = wcells (pre.map fun x => layW R.2 d (cl n2 x)) ++ [.int .i64 (layW R.2 d (cl n2 x)).sector, .string (layW R.2 d (cl n2 x)).bytes] := by
            rw [List.map_append, wcells_append]; rfl
          generalize cl n2 x = X at *
          have hW := Lib.hid (fun u => blobWritten_ok (R.2.getD (X + 1) 0) (partS d X) u (by
            by_cases h : X + 1 < R.2.length
            · have := hlt (R.2.getD (X + 1) 0) (by simp [List.getD, h])
              omega
            · rw [show R.2.getD (X + 1) 0 = 0 from by simp [List.getD, h]]; omega) (partS_size d X))
          have hS0 : layW R.2 d X = ⟨(R.2.getD X 0 : Nat), secS (R.2.getD (X + 1) 0) (partS d X)⟩ := rfl
          rw [hS0] at hsn
          have cv := hv.cell
          have cS : W.cell? ⟨B0, 0, none⟩ = some (.slice (some ⟨b2, o2, none⟩) n2 c2) := (hB.cell (p := ⟨B0, 0, none⟩) (Nat.lt_succ_self _)).trans bS5.cell
          have bNW : Boxed W g 31 (.slice (some ⟨gn, 0, none⟩) n2 ncap) := hKX _ _ _ bN5 (by decide) (by omega)
          have cN := bNW.cell
          have bRW := hKX _ _ _ bR5 (by decide) (by omega)
          have c1 : W.cell? ⟨b2, o2 + X, none⟩ = some (.int .i64 (R.2.getD X 0 : Nat)) := (hB.cell (p := ⟨b2, o2 + X, none⟩) (by show b2 < B0 + 1; omega)).trans (hcW5 X hx)
          have c2' : W.cell? ⟨gn, X, none⟩ = some (.int .i64 (R.2.getD (X + 1) 0 : Nat)) := by rw [cell_of_row _ _ _ _ _ _ bRW]; exact hgn6 X hx
          have hxI : (X : Int) < n2 := by omega
          have c1W := hcW5 X hx
          have c2W := hgn6 X hx
          have HSN := Lib.hid hsn; have HB := Lib.hid hB; have HKX := Lib.hid hKX; have HROW := Lib.hid hrow; have HV := Lib.hid hv
          generalize partS d X = PS at *
          generalize secS (R.2.getD (X + 1) 0) PS = SS at *
          generalize R.2.getD (X + 1) 0 = NX at *
          generalize R.2.getD X 0 = SX at *
          have hszB := hB.size
          have hlpre : pre.length < n2 := hlt'
          obtain ⟨SQ, hSQ⟩ : ∃ SQ : World → Prop, SQ = fun V => V.cell? ⟨B0, 0, none⟩ = some (.slice (some ⟨b2, o2, none⟩) n2 c2) ∧ V.cell? ⟨b2, o2 + X, none⟩ = some (.int .i64 (SX : Nat)) ∧ V.cell? ⟨g, 0, none⟩ = some (.slice (some ⟨gn, 0, none⟩) n2 ncap) ∧ V.cell? ⟨gn, X, none⟩ = some (.int .i64 (NX : Nat)) := ⟨_, rfl⟩
          have SQOF : ∀ V, Below (B0 + 1) W4 V → KX W4 (B0 + 1) 49 V → SQ V := fun V h1 h2 => by
            have k1 : Boxed V g 31 (.slice (some ⟨gn, 0, none⟩) n2 ncap) := h2 _ _ _ bN5 (by decide) (by omega)
            have k2 := h2 _ _ _ bR5 (by decide) (by omega)
            rw [hSQ]
            exact ⟨(h1.cell (p := ⟨B0, 0, none⟩) (Nat.lt_succ_self _)).trans bS5.cell, (h1.cell (p := ⟨b2, o2 + X, none⟩) (by show b2 < B0 + 1; omega)).trans c1W, k1.cell, by rw [cell_of_row _ _ _ _ _ _ k2]; exact c2W⟩
          have KEY : ∀ w5 : World, Below W.heap.size W w5 → ∃ g' cap' w6,
              Sem.run Tryd.prog (Builtin.append_ #[23, 23] 23 #[v, .slice (some ⟨w5.heap.size, 0, none⟩) 1 1]) (w5.alloc (.cells #[.int .i64 (SX : Nat), .string SS] 49)) = .ok (.slice (some ⟨g', 0, none⟩) (pre.length + 1) cap') w6 ∧
              w6.cell? ⟨B0 + 1, 0, none⟩ = some v ∧ w6.frozen? ⟨B0 + 1, 0, none⟩ = false ∧
              w5.cell? ⟨B0 + 1, 0, none⟩ = some v ∧ (w5.alloc (.cells #[.int .i64 (SX : Nat), .string SS] 49)).cell? ⟨B0 + 1, 0, none⟩ = some v ∧
              (SQ w5 ∧ SQ (w5.alloc (.cells #[.int .i64 (SX : Nat), .string SS] 49)) ∧ SQ w6 ∧ SQ (w6.setCell ⟨B0 + 1, 0, none⟩ (.slice (some ⟨g', 0, none⟩) (pre.length + 1) cap'))) ∧
              (KeepsFrom W4.heap.size W (w6.setCell ⟨B0 + 1, 0, none⟩ (.slice (some ⟨g', 0, none⟩) (pre.length + 1) cap')) ∧ KeepsOne wc.heap.size W (w6.setCell ⟨B0 + 1, 0, none⟩ (.slice (some ⟨g', 0, none⟩) (pre.length + 1) cap')) ∧
                (((∃ v, Boxed (w6.setCell ⟨B0 + 1, 0, none⟩ (.slice (some ⟨g', 0, none⟩) (pre.length + 1) cap')) (B0 + 1) 23 v ∧ (w6.setCell ⟨B0 + 1, 0, none⟩ (.slice (some ⟨g', 0, none⟩) (pre.length + 1) cap')).ownsRow (B0 + 1) 49 2 v (pre ++ [x]).length (wcells ((pre ++ [x]).map fun x => layW R.2 d (cl n2 x))) ∧ True) ∧ KX W4 (B0 + 1) 49 (w6.setCell ⟨B0 + 1, 0, none⟩ (.slice (some ⟨g', 0, none⟩) (pre.length + 1) cap'))) ∧ Below (B0 + 1) W4 (w6.setCell ⟨B0 + 1, 0, none⟩ (.slice (some ⟨g', 0, none⟩) (pre.length + 1) cap')))) := by
            intro w5 hbW
            have hszW := hbW.size
            have hv5' : Boxed w5 (B0 + 1) 23 v := (hbW.block _ hv.lt).trans hv
            have hrow5 := own_fits hrow hbW
            have hB5 := hB.trans (hbW.mono (show B0 + 1 ≤ W.heap.size by omega))
            have hKX5 : KX W4 (B0 + 1) 49 w5 := fun k cs T' hk hT hB' => by
              have h1 := hKX k cs T' hk hT hB'
              exact (hbW.block k (Array.getElem?_eq_some_iff.1 h1).1).trans h1
            have hKXa : KX W4 (B0 + 1) 49 (w5.alloc (.cells #[.int .i64 (SX : Nat), .string SS] 49)) := fun k cs T' hk hT hB' => by
              have h1 := hKX5 k cs T' hk hT hB'
              exact (Below.heap_alloc w5 _ k (Array.getElem?_eq_some_iff.1 h1).1).trans h1
            obtain ⟨v', w6, hrun, hown6, hgrow, _, _⟩ := run_append_own_at (P := Tryd.prog) (w5.alloc (.cells #[.int .i64 (SX : Nat), .string SS] 49)) (B0 + 1) 23 23 49 i1 (.agg #[.int .i64 0, .string ⟨#[]⟩]) 2 24 Tryd.underlying23 hi1 hy0 hy1 hy2 rfl (by decide) v pre.length _ (hrow5.alloc _) ⟨w5.heap.size, 0, none⟩ 1 1 [.int .i64 (SX : Nat), .string SS] rfl (cells_new w5 [.int .i64 (SX : Nat), .string SS] _) (by intro u hu; simp at hu; rcases hu with rfl | rfl <;> rfl) (by unfold maxLen; omega) (by omega) (by simp; omega)
            obtain ⟨g', cap', rfl⟩ := ownsRow_succ hown6
            obtain ⟨hv1', hv2', hr2, hk2, hb2'⟩ := hv5'.appended (by decide) hrow5 (by omega) (Nat.le_refl _) hown6 hgrow
            have hKX7 : KX W4 (B0 + 1) 49 (w6.setCell ⟨B0 + 1, 0, none⟩ (.slice (some ⟨g', 0, none⟩) (pre.length + 1) cap')) := fun k cs T' hk hT hB' => by
              have h3 := hKXa k cs T' hk hT hB'
              have hne : v.ownBlock ≠ some k := by
                rcases (hrow5.alloc (.cells #[.int .i64 (SX : Nat), .string SS] 49)).2 with ⟨rfl, _⟩ | ⟨gk, capk, curk, rfl, _, hgk, _⟩
                · simp [Value.ownBlock]
                · intro e
                  have e2 : gk = k := by simpa [Value.ownBlock] using e
                  subst e2
                  rw [h3] at hgk
                  injection hgk with hgk
                  injection hgk with _ hgk _
                  exact hT hgk
              have h4 := (hgrow.block k (Array.getElem?_eq_some_iff.1 h3).1 (fun e => hne e.symm)).trans h3
              exact (Below.heap_setCell _ _ _ _ (fun e => hB' (by simpa using e))).trans h4
            have hB7 := hB5.trans hb2'
            have q7 := SQOF _ hB7 hKX7
            have q6 : SQ w6 := by
              rw [hSQ] at q7 ⊢
              obtain ⟨s1, s2, s3, s4⟩ := q7
              rw [World.cell?_setCell_other _ _ _ _ (by intro h; injection h with h1; omega)] at s1 s2 s3 s4
              exact ⟨s1, s2, s3, s4⟩
            refine ⟨g', cap', w6, hrun, hv1'.cell, hv1'.frozen, hv5'.cell, (hv5'.alloc _).cell, ⟨SQOF _ hB5 hKX5, SQOF _ (hB5.alloc (by omega) _) hKXa, q6, q7⟩, ?_, ?_, ⟨⟨_, hv2', ?_, trivial⟩, hKX7⟩, hB7⟩
            · exact (KeepsFrom.mk hbW.size (fun k o _ hk _ => (hbW.block k (Array.getElem?_eq_some_iff.1 hk).1).trans hk)).trans (hk2.from _)
            · intro u hu
              have hu5 : Boxed w5 wc.heap.size 9 u := (hbW.block _ hu.lt).trans hu
              exact ((hu5.alloc _).kept hgrow (hu5.not_row (by decide) hrow5)).kept (grownBy_setCell' _ _ _) (fun e => by have := Option.some.inj e; omega)
            · rw [hsn, List.length_append]; exact hr2
          have hSW : SQ W.drew := by rw [hSQ]; exact ⟨cS, c1, cN, c2'⟩
          have cvd : W.drew.cell? ⟨B0 + 1, 0, none⟩ = some v := cv
          clear hsn hB hKX hrow hv hS0 hlt bS5 bO5 bN5 hb5 hv5 HD hcW5 hgn6 bRW bNW HSN HB HKX HROW HV SQOF c1W c2W
          have HKEY := Lib.hid KEY
          clear KEY
          subst hSQ
          gi_wp2_with fail
          refine region_inRound (S := fun V => V.cell? ⟨B0, 0, none⟩ = some (.slice (some ⟨b2, o2, none⟩) n2 c2) ∧ V.cell? ⟨b2, o2 + X, none⟩ = some (.int .i64 (SX : Nat)) ∧ V.cell? ⟨g, 0, none⟩ = some (.slice (some ⟨gn, 0, none⟩) n2 ncap) ∧ V.cell? ⟨gn, X, none⟩ = some (.int .i64 (NX : Nat))) _ _ (by kernel_rfl) (by kernel_rfl) (by rintro ⟨_, _, h⟩; exact h) ?_
          refine wpAnyH_take (i := 1) (v := (.slice (some ⟨b2, o2, none⟩) n2 c2)) rfl (by kernel_rfl) (by kernel_rfl) (by kernel_rfl) (fun _ _ _ h => h) (Or.inl ⟨by rfl, fun w hSw => ?_⟩) (by assumption) ?_
          · obtain ⟨s1, s2, s3, s4⟩ := hSw
            go_simp
          try simp only [Act.put, List.setIfInBounds_toArray, List.set_cons_zero, List.set_cons_succ]
          refine wpAnyH_take (i := 2) (v := (.int .i64 (X : Nat))) rfl (by kernel_rfl) (by kernel_rfl) (by kernel_rfl) (fun _ _ _ h => h) (Or.inl ⟨by rfl, fun w hSw => ?_⟩) (by assumption) ?_
          · obtain ⟨s1, s2, s3, s4⟩ := hSw
            go_simp
          try simp only [Act.put, List.setIfInBounds_toArray, List.set_cons_zero, List.set_cons_succ]
          refine wpAnyH_take (i := 3) (v := (.pointer (some ⟨b2, o2 + X, none⟩))) rfl (by kernel_rfl) (by kernel_rfl) (by kernel_rfl) (fun _ _ _ h => h) (Or.inl ⟨by rfl, fun w hSw => ?_⟩) (by assumption) ?_
          · obtain ⟨s1, s2, s3, s4⟩ := hSw
            go_simp
          try simp only [Act.put, List.setIfInBounds_toArray, List.set_cons_zero, List.set_cons_succ]
          refine wpAnyH_take (i := 4) (v := (.int .i64 (SX : Nat))) rfl (by kernel_rfl) (by kernel_rfl) (by kernel_rfl) (fun _ _ _ h => h) (Or.inl ⟨by rfl, fun w hSw => ?_⟩) (by assumption) ?_
          · obtain ⟨s1, s2, s3, s4⟩ := hSw
            go_simp
          try simp only [Act.put, List.setIfInBounds_toArray, List.set_cons_zero, List.set_cons_succ]
          refine wpAnyH_take (i := 5) (v := (.slice (some ⟨gn, 0, none⟩) n2 ncap)) rfl (by kernel_rfl) (by kernel_rfl) (by kernel_rfl) (fun _ _ _ h => h) (Or.inl ⟨by rfl, fun w hSw => ?_⟩) (by assumption) ?_
          · obtain ⟨s1, s2, s3, s4⟩ := hSw
            go_simp
          try simp only [Act.put, List.setIfInBounds_toArray, List.set_cons_zero, List.set_cons_succ]
          refine wpAnyH_take (i := 6) (v := (.int .i64 (X : Nat))) rfl (by kernel_rfl) (by kernel_rfl) (by kernel_rfl) (fun _ _ _ h => h) (Or.inl ⟨by rfl, fun w hSw => ?_⟩) (by assumption) ?_
          · obtain ⟨s1, s2, s3, s4⟩ := hSw
            go_simp
          try simp only [Act.put, List.setIfInBounds_toArray, List.set_cons_zero, List.set_cons_succ]
          refine wpAnyH_take (i := 7) (v := (.pointer (some ⟨gn, X, none⟩))) rfl (by kernel_rfl) (by kernel_rfl) (by kernel_rfl) (fun _ _ _ h => h) (Or.inl ⟨by rfl, fun w hSw => ?_⟩) (by assumption) ?_
          · obtain ⟨s1, s2, s3, s4⟩ := hSw
            go_simp
          try simp only [Act.put, List.setIfInBounds_toArray, List.set_cons_zero, List.set_cons_succ]
          refine wpAnyH_take (i := 8) (v := (.int .i64 (NX : Nat))) rfl (by kernel_rfl) (by kernel_rfl) (by kernel_rfl) (fun _ _ _ h => h) (Or.inl ⟨by rfl, fun w hSw => ?_⟩) (by assumption) ?_
          · obtain ⟨s1, s2, s3, s4⟩ := hSw
            go_simp
          try simp only [Act.put, List.setIfInBounds_toArray, List.set_cons_zero, List.set_cons_succ]
          refine wpAnyH_take (i := 9) (v := (.string PS)) rfl (by kernel_rfl) (by kernel_rfl) (by kernel_rfl) (fun _ _ _ h => h) (Or.inl ⟨by rfl, fun w hSw => ?_⟩) (by assumption) ?_
          · obtain ⟨s1, s2, s3, s4⟩ := hSw
            go_simp
          try simp only [Act.put, List.setIfInBounds_toArray, List.set_cons_zero, List.set_cons_succ]
          refine wpAnyH_ready (rs := [0, 10]) (by kernel_rfl) (by simp) ?_
          refine AllReadyH.cons rfl (fun K hK => ?_) (AllReadyH.cons rfl (fun K hK => ?_) AllReadyH.nil)
          · go_simp
            refine hK.out _ _ hSW (fun _ => ?_)
            clear hK K
            try simp only [Act.put, List.setIfInBounds_toArray, List.set_cons_zero, List.set_cons_succ]
            refine wpAnyH_ready (rs := [10]) (by kernel_rfl) (by simp) ?_
            refine AllReadyH.cons rfl (fun K hK => ?_) AllReadyH.nil
            go_simp
            refine (hW.out _).mono ?_
            rintro e w5 ⟨rfl, hb5⟩
            obtain ⟨g', cap', w6, hrun, d1, d2, e0, e1, ⟨q5, qa, q6, q7⟩, hpost⟩ := HKEY.out w5 ((Below.refl _ W).drew.trans hb5)
            refine hK.out _ _ q5 (fun _ => ?_)
            clear hK K
            try simp only [Act.put, List.setIfInBounds_toArray, List.set_cons_zero, List.set_cons_succ]
            refine wpAnyH_take (i := 11) (v := (.agg #[.int .i64 (SX : Nat), .string SS])) rfl (by kernel_rfl) (by kernel_rfl) (by kernel_rfl) (fun _ _ _ h => h) (Or.inl ⟨by rfl, fun w hSw => ?_⟩) (by assumption) ?_
            · obtain ⟨s1, s2, s3, s4⟩ := hSw
              go_simp
            try simp only [Act.put, List.setIfInBounds_toArray, List.set_cons_zero, List.set_cons_succ]
            refine wpAnyH_ready (rs := [12]) (by kernel_rfl) (by simp) ?_
            refine AllReadyH.cons rfl (fun K hK => ?_) AllReadyH.nil
            go_simp
            refine hK.out _ _ qa (fun _ => ?_)
            clear hK K
            try simp only [Act.put, List.setIfInBounds_toArray, List.set_cons_zero, List.set_cons_succ]
            refine wpAnyH_ready (rs := [13]) (by kernel_rfl) (by simp) ?_
            refine AllReadyH.cons rfl (fun K hK => ?_) AllReadyH.nil
            go_simp
            refine hK.out _ _ q6 (fun _ => ?_)
            clear hK K
            try simp only [Act.put, List.setIfInBounds_toArray, List.set_cons_zero, List.set_cons_succ]
            refine wpAnyH_ready (rs := [14]) (by kernel_rfl) (by simp) ?_
            refine AllReadyH.cons rfl (fun K hK => ?_) AllReadyH.nil
            go_simp
            refine hK.out _ _ q7 (fun _ => ?_)
            clear hK K
            refine wpAnyH_done (by kernel_rfl) ?_ _
            exact hpost
          · go_simp
            refine (hW.out _).mono ?_
            rintro e w5 ⟨rfl, hb5⟩
            obtain ⟨g', cap', w6, hrun, d1, d2, e0, e1, ⟨q5, qa, q6, q7⟩, hpost⟩ := HKEY.out w5 ((Below.refl _ W).drew.trans hb5)
            refine hK.out _ _ q5 (fun _ => ?_)
            clear hK K
            try simp only [Act.put, List.setIfInBounds_toArray, List.set_cons_zero, List.set_cons_succ]
            refine wpAnyH_take (i := 11) (v := (.agg #[.int .i64 (SX : Nat), .string SS])) rfl (by kernel_rfl) (by kernel_rfl) (by kernel_rfl) (fun _ _ _ h => h) (Or.inl ⟨by rfl, fun w hSw => ?_⟩) (by assumption) ?_
            · obtain ⟨s1, s2, s3, s4⟩ := hSw
              go_simp
            try simp only [Act.put, List.setIfInBounds_toArray, List.set_cons_zero, List.set_cons_succ]
            refine wpAnyH_ready (rs := [0, 12]) (by kernel_rfl) (by simp) ?_
            refine AllReadyH.cons rfl (fun K hK => ?_) (AllReadyH.cons rfl (fun K hK => ?_) AllReadyH.nil)
            · go_simp
              refine hK.out _ _ q5 (fun _ => ?_)
              clear hK K
              try simp only [Act.put, List.setIfInBounds_toArray, List.set_cons_zero, List.set_cons_succ]
              refine wpAnyH_ready (rs := [12]) (by kernel_rfl) (by simp) ?_
              refine AllReadyH.cons rfl (fun K hK => ?_) AllReadyH.nil
              go_simp
              refine hK.out _ _ qa (fun _ => ?_)
              clear hK K
              try simp only [Act.put, List.setIfInBounds_toArray, List.set_cons_zero, List.set_cons_succ]
              refine wpAnyH_ready (rs := [13]) (by kernel_rfl) (by simp) ?_
              refine AllReadyH.cons rfl (fun K hK => ?_) AllReadyH.nil
              go_simp
              refine hK.out _ _ q6 (fun _ => ?_)
              clear hK K
              try simp only [Act.put, List.setIfInBounds_toArray, List.set_cons_zero, List.set_cons_succ]
              refine wpAnyH_ready (rs := [14]) (by kernel_rfl) (by simp) ?_
              refine AllReadyH.cons rfl (fun K hK => ?_) AllReadyH.nil
              go_simp
              refine hK.out _ _ q7 (fun _ => ?_)
              clear hK K
              try simp only [Act.put, List.setIfInBounds_toArray, List.set_cons_zero, List.set_cons_succ]
              refine wpAnyH_done (by kernel_rfl) ?_ _
              exact hpost
            · go_simp
              refine hK.out _ _ qa (fun _ => ?_)
              clear hK K
              try simp only [Act.put, List.setIfInBounds_toArray, List.set_cons_zero, List.set_cons_succ]
              refine wpAnyH_ready (rs := [0]) (by kernel_rfl) (by simp) ?_
              refine AllReadyH.cons rfl (fun K hK => ?_) AllReadyH.nil
              go_simp
              refine hK.out _ _ qa (fun _ => ?_)
              clear hK K
              try simp only [Act.put, List.setIfInBounds_toArray, List.set_cons_zero, List.set_cons_succ]
              refine wpAnyH_ready (rs := [13]) (by kernel_rfl) (by simp) ?_
              refine AllReadyH.cons rfl (fun K hK => ?_) AllReadyH.nil
              go_simp
              refine hK.out _ _ q6 (fun _ => ?_)
              clear hK K
              try simp only [Act.put, List.setIfInBounds_toArray, List.set_cons_zero, List.set_cons_succ]
              refine wpAnyH_ready (rs := [14]) (by kernel_rfl) (by simp) ?_
              refine AllReadyH.cons rfl (fun K hK => ?_) AllReadyH.nil
              go_simp
              refine hK.out _ _ q7 (fun _ => ?_)
              clear hK K
              try simp only [Act.put, List.setIfInBounds_toArray, List.set_cons_zero, List.set_cons_succ]
              refine wpAnyH_done (by kernel_rfl) ?_ _
              exact hpost
        case done =>
          rintro D ys W hD rfl ⟨⟨⟨v, hv, hrow, _⟩, hKX⟩, hB⟩ hK
          have cS : W.cell? ⟨B0, 0, none⟩ = some (.slice (some ⟨b2, o2, none⟩) n2 c2) := (hB.cell (p := ⟨B0, 0, none⟩) (Nat.lt_succ_self _)).trans bS5.cell
          have c1 : W.cell? ⟨b2, o2, none⟩ = some (.int .i64 (R.2.getD 0 0 : Nat)) := (hB.cell (p := ⟨b2, o2, none⟩) (by show b2 < B0 + 1; omega)).trans (hcW5 0 (by omega))
          have cv := hv.cell
          have hmap : (List.range n2).map (fun x => layW R.2 d (cl n2 x)) = wrtsL R.2 d := by
            unfold wrtsL
            rw [HRl.out]
            exact List.map_congr_left fun x hx => by rw [cl_of (List.mem_range.1 hx)]
          rw [hmap] at hrow
          have hIW := own_wrts hrow (by
            intro s hs
            obtain ⟨i, hi, rfl⟩ := List.mem_map.1 hs
            have hi' := List.mem_range.1 hi
            have hp := secS_size (R.2.getD (i + 1) 0) (partS d i) (partS_size d i)
            have h1 := hlt (R.2.getD i 0) (by simp [List.getD, hi'])
            exact ⟨⟨by show (-9223372036854775808 : Int) ≤ (R.2.getD i 0 : Nat); omega, by show ((R.2.getD i 0 : Nat) : Int) ≤ 9223372036854775807; omega⟩, Nat.le_trans hp (by decide)⟩)
          have hIB : IsBools W v1 R.1 := HV1.out.below (by rw [HB0.out]; exact hv5.trans (hB.mono (Nat.le_succ _)))
          have hBW := hb5.trans (hB.mono (show w.heap.size ≤ B0 + 1 by omega))
          clear hmap bS5 bO5 bN5 bR5 HD hcW5 hgn6 hrow hKX
          gi_wp2_with fail
          go_wp2_with fail
          go_quiet (fail)
          go_wp2_with fail
          have hK' : (W.drewN nq).heap[D]? = some (.deferred (some [])) := hK
          have hIW' : IsWrts (W.drewN nq) v (wrtsL R.2 d) := hIW
          refine ⟨by simp, .inl ⟨_, _, rfl, run_takeDeferred hK', ?_⟩⟩
          refine ⟨_, results_tmp4 rfl _ _ _, ?_⟩
          have hB9 := belowK_b (w := w) (Nat.le_refl _) (W.drewN nq) D (.deferred (some [])) (.deferred none) (by omega) hK' rfl rfl
          have hB8 := belowK_b (w := w1) (Nat.le_refl _) (W.drewN nq) D (.deferred (some [])) (.deferred none) (by rw [HB0.out]; omega) hK' rfl rfl
          refine ⟨_, _, rfl, ?_, wrts_kept hIW' (grownBy_putObj' _ D (.deferred none)) (fun r e => by cases e; exact ⟨_, hK', rfl⟩), ?_⟩
          · exact HV1.out.below ((show Below w1.heap.size w1 (W.drewN nq) from (by rw [HB0.out]; exact below_drewN (hv5.trans (hB.mono (Nat.le_succ _))) nq)).trans hB8)
          · exact (below_drewN hBW nq).trans hB9
        case stop =>
          rintro D c pre W _ _ h _
          exact h.elim
    · have hR := HBAD.out hE
      rw [hR] at HT ⊢
      clear hR HBAD HOK HLT
      have hEd : decide (E = 0) = false := decide_eq_false hE
      go_wp2_with (first | (go_at_call 35; refine (HN.out _).mono ?_; rintro e w1 ⟨rfl, rfl⟩) | (go_at_call 36; refine (HT.out _ HH.out).mono ?_; rintro e w1 ⟨v1, v2, rfl, hv1, ⟨a2, n2, c2, rfl, hl2, hcc1, hcc2, hat2⟩, hb1, hnk⟩))
      refine ⟨_, results_tmp4 rfl _ _ _, ?_⟩
      exact ⟨_, _, rfl, bools_nil _, nilWrts _, hb1.alloc hb1.size _⟩
theorem blobLay_any (v : Value) (l : List Bool) (d : ByteArray) (w : World) (h : IsBools w v l) (hd : d.size ≤ 30000) :
    Calls Tryd.prog 15 #[v, .string d] w (LayPost (layE l d) (layT l d) d w) :=
  callsIn_wide.1 (blobLay_in 3 (Nat.le_refl _) v l d w h hd)
end Go.Proofs.YtimiooiaohfelaaDoor
