/- Taking sectors. -/
import Derived.Test.YtimiooiaohfelaaDoorRoomN
namespace Go.Proofs.YtimiooiaohfelaaDoor
open Go.RowKit
set_option linter.unusedVariables false

/-- the row and what is taken, the first k sectors having been looked at -/
def tk (l : List Bool) (many : Nat) : Nat → List Bool × List Nat
  | 0 => (l, [])
  | k + 1 => if (tk l many k).2.length < many ∧ l.getD k true = false then ((tk l many k).1.set k true, (tk l many k).2 ++ [k]) else tk l many k
theorem tk_len (l : List Bool) (many k : Nat) : (tk l many k).1.length = l.length := by
  induction k with
  | zero => rfl
  | succ k ih =>
    rw [tk]
    split
    · rw [List.length_set]; exact ih
    · exact ih
theorem tk_far (l : List Bool) (many k j : Nat) (h : k ≤ j) : (tk l many k).1[j]? = l[j]? := by
  induction k with
  | zero => rfl
  | succ k ih =>
    rw [tk]
    split
    · simp only [List.getElem?_set]
      rw [if_neg (by omega)]
      exact ih (by omega)
    · exact ih (by omega)
theorem tk_few (l : List Bool) (many k : Nat) : (tk l many k).2.length ≤ k := by
  induction k with
  | zero => simp [tk]
  | succ k ih =>
    rw [tk]
    split
    · simp; omega
    · omega
def takeE (l : List Bool) (many : Int) : Int := if rightB l = true ∧ 0 ≤ many then (if (freeN l : Int) < many then 31 else 0) else 1
def takeR (l : List Bool) (many : Int) : List Bool × List Nat := if takeE l many = 0 then tk l many.toNat l.length else ([], [])
def natV (n : Nat) : Value := .int .i64 n
abbrev IsNats (w : World) (v : Value) (l : List Nat) : Prop := Reads1 natV w v l
theorem nats_nil (w : World) : IsNats w (.slice none 0 0) [] := ⟨none, 0, 0, rfl, rfl, by omega, by omega, .inl rfl⟩
def NilOk (v : Value) : Prop := ∀ len cap, v = .slice none len cap → cap = 0
theorem nilOk_nil : NilOk (.slice none 0 0) := by intro len cap h; injection h with _ _ h; exact h.symm
theorem nilOk_own {w : World} {base : Nat} {e : TypeId} {v : Value} {n : Nat} {xs : List Value} (h : w.ownsRow base e 1 v n xs) : NilOk v := by
  rcases h.2 with ⟨rfl, _⟩ | ⟨g, cap, cur, rfl, _⟩
  · exact nilOk_nil
  · intro len cap h; cases h
def TakePost (E : Int) (r : List Bool × List Nat) (w : World) (e : Ending) (w' : World) : Prop :=
  ∃ v1 v2, e = .returned (.tuple #[v1, v2, .int .i64 E]) ∧ IsBools w' v1 r.1 ∧ IsNats w' v2 r.2 ∧ Below w.heap.size w w' ∧ NilOk v2
theorem infoInt : (Tryd.prog.info? 3).map (fun i => (i.zero, i.size, i.bytes)) = some (some (.int .i64 0), 1, 8) := by kernel_rfl

set_option maxRecDepth 100000 in
set_option maxHeartbeats 1000000 in
theorem roomTake_ok (v : Value) (l : List Bool) (m : Nat) (w : World) (h : IsBools w v l) (hr : rightB l = true) (hm : m ≤ freeN l) :
    Calls Tryd.prog 36 #[v, .int .i64 (m : Int)] w (TakePost 0 (tk l m l.length) w) := by
  obtain ⟨i0, hi, hz0, hz1, hz2⟩ := info_parts infoInt
  have hR := Lib.hid (fun u hu => roomRight_any v l u hu)
  have hF := Lib.hid (fun u hu => roomFree_any v l u hu)
  have hl256 : l.length ≤ 256 := by
    unfold rightB at hr
    simp only [Bool.and_eq_true, decide_eq_true_eq] at hr
    exact hr.1.2
  have hfl : freeN l ≤ l.length := List.count_le_length
  have hC := Lib.hid (fun u hu => roomCopied_any v l u hu hl256)
  have hmF : (m : Int) ≤ freeN l := by omega
  have hm256 : (m : Int) ≤ 256 := by omega
  have hf256 : (freeN l : Int) ≤ 256 := by omega
  have HH := Lib.hid h
  obtain ⟨a, len, cap, rfl, hlen, hc1, hc2, hat⟩ := h
  rw [hr] at hR
  have hlI : (len : Int) ≤ 256 := by omega
  have HLEN := Lib.hid hlen
  generalize freeN l = F at *
  clear hr hm hl256 hfl hat hlen
  go_enter Tryd.func36, Tryd.ntmps36
  go_wp2_with fail
  refine (hR.out _ HH.out).mono ?_
  rintro e w' ⟨rfl, rfl⟩
  go_wp2_with fail
  refine (hF.out _ HH.out).mono ?_
  rintro e w' ⟨rfl, rfl⟩
  go_wp2_with fail
  refine (hC.out _ HH.out).mono ?_
  rintro e w2 ⟨rfl, hg2, hb2⟩
  have hn0 : w.heap.size < w2.heap.size := lt_of_block hg2
  rw [HLEN.out]
  have HG := Lib.hid hg2
  clear hR hF hC hg2
  go_wp2_with fail
  go_loopw [8, 25] (fun b c wr => ∃ k : Nat, k ≤ len ∧ c = .int .i64 k ∧ wr.ownsRow w.heap.size 3 1 b (tk l m k).2.length ((tk l m k).2.map natV) ∧ wr.heap[w.heap.size]? = some (.cells ((tk l m k).1.map Value.bool).toArray 4 (0, 0)) ∧ Below w.heap.size w wr) (fun _ c _ => len - (intOf c).toNat)
  case atStart => exact ⟨0, by omega, rfl, World.ownsRow_nil _ _ _ _, HG.out, hb2⟩
  case round =>
    clear HG hb2 hn0
    obtain ⟨k, hk, rfl, hown, hblk, hbel⟩ := hrel
    obtain ⟨A, c8, rfl, hA1, hA2⟩ := own_form1 hown
    by_cases hlt : k < len
    · have hkl : k < l.length := by have := HLEN.out; omega
      have hRk : (tk l m k).1[k]? = some l[k] := by rw [tk_far _ _ _ _ (Nat.le_refl _)]; simp [hkl]
      have hgd : l.getD k true = l[k] := by simp [List.getD, hkl]
      have hfew := tk_few l m k
      have htk : tk l m (k + 1) = if (tk l m k).2.length < m ∧ l.getD k true = false then ((tk l m k).1.set k true, (tk l m k).2 ++ [k]) else tk l m k := rfl
      rw [hgd] at htk
      have hcell : wr.cell? ⟨w.heap.size, k, none⟩ = some (.bool l[k]) := by
        rw [cell_of_row _ _ _ _ _ _ hblk]
        simp [hRk]
      have hfz := block_frozen hblk k
      have HO := Lib.hid hown; have HB := Lib.hid hblk; have HT := Lib.hid htk
      have hkI : (k : Int) < len := by omega
      clear hown hblk htk hRk hgd
      by_cases hn : (tk l m k).2.length < m
      · have hnI : ((tk l m k).2.length : Int) < m := by omega
        cases hb : l[k]
        · rw [hb] at hcell HT
          have hT2 := HT.out
          rw [if_pos ⟨hn, rfl⟩] at hT2
          have HT2 := Lib.hid hT2
          have hown2 := own_setCell HO.out HB.out (by decide) k (.bool true)
          have hblk2 := block_set HB.out k (.bool true)
          rw [arr_set] at hblk2
          have hbel2 := hbel.setCell (p := ⟨w.heap.size, k, none⟩) (Nat.le_refl _) (.bool true)
          have HO2 := Lib.hid hown2; have HB2 := Lib.hid hblk2
          clear hT2 hown2 hblk2 hb HT HO HB
          generalize (tk l m k).2 = G at *
          generalize (tk l m k).1 = R at *
          go_wp2_with (first | (at_builtin; go_must (refine wpList_push2 _ _ 31 3 (natV k) HO2.out hbel2 (Nat.le_refl _) Tryd.underlying31 hi hz0 hz1 hz2 rfl rfl rfl rfl (by first | rfl | (rw [World.size_setCell]; rfl)) rfl ?c1 ?_)))
          case c1 => omega
          intro v' w3 hown3 hbel3 hkeep
          have hblk3 := hkeep _ _ _ HB2.out (by decide)
          have HO3 := Lib.hid hown3; have HB3 := Lib.hid hblk3
          clear hkeep hown3 hblk3 hbel2
          go_wp2_with fail
          go_roundw
          case rel =>
            refine ⟨k + 1, by omega, by go_num, ?_, ?_, hbel3⟩
            · rw [HT2.out]; simpa using HO3.out
            · rw [HT2.out]; exact HB3.out
          case measure => simp [intOf]; omega
        · rw [hb] at hcell HT
          have hT2 := HT.out
          rw [if_neg (by simp)] at hT2
          have HT2 := Lib.hid hT2
          clear hT2 hb HT
          go_wp2_with fail
          go_roundw
          case rel => exact ⟨k + 1, by omega, by go_num, by rw [HT2.out]; exact HO.out, by rw [HT2.out]; exact HB.out, hbel⟩
          case measure => simp [intOf]; omega
      · have hnI : (m : Int) ≤ ((tk l m k).2.length : Int) := by omega
        have hT2 := HT.out
        rw [if_neg (fun h => hn h.1)] at hT2
        have HT2 := Lib.hid hT2
        clear hT2 HT hn
        go_wp2_with fail
        go_roundw
        case rel => exact ⟨k + 1, by omega, by go_num, by rw [HT2.out]; exact HO.out, by rw [HT2.out]; exact HB.out, hbel⟩
        case measure => simp [intOf]; omega
    · obtain rfl : k = len := by omega
      have hR1 := block_reads1 hblk (by rw [tk_len]; have := HLEN.out; omega)
      rw [tk_len, HLEN.out] at hR1
      have hR2 := own_reads1 hown rfl
      have H1 := Lib.hid hR1; have H2 := Lib.hid hR2; have H3 := Lib.hid (nilOk_own hown)
      clear hown hblk hR1 hR2
      go_wp2_with fail
      go_ret3
      exact ⟨_, _, rfl, by rw [HLEN.out]; exact H1.out, by rw [HLEN.out]; exact H2.out, hbel, H3.out⟩

theorem rightB_len {l : List Bool} (h : rightB l = true) : 64 ≤ l.length ∧ l.length ≤ 256 := by
  unfold rightB at h
  simp only [Bool.and_eq_true, decide_eq_true_eq] at h
  exact h.1
set_option maxRecDepth 100000 in
set_option maxHeartbeats 1000000 in
theorem roomTake_any (v : Value) (l : List Bool) (m : Int) (w : World) (h : IsBools w v l) :
    Calls Tryd.prog 36 #[v, .int .i64 m] w (TakePost (takeE l m) (takeR l m) w) := by
  have hR := Lib.hid (fun u hu => roomRight_any v l u hu)
  have hF := Lib.hid (fun u hu => roomFree_any v l u hu)
  by_cases hr : rightB l = true
  · by_cases h0 : 0 ≤ m
    · by_cases hm : (freeN l : Int) < m
      · have e1 : takeE l m = 31 := by unfold takeE; rw [if_pos ⟨hr, h0⟩, if_pos hm]
        have e2 : takeR l m = ([], []) := by unfold takeR; rw [e1]; rfl
        have hf : (freeN l : Int) ≤ 256 := by
          have h1 := rightB_len hr
          have : freeN l ≤ l.length := List.count_le_length
          omega
        rw [e1, e2]
        have HH := Lib.hid h
        obtain ⟨a, len, cap, rfl, hlen, hc1, hc2, hat⟩ := h
        rw [hr] at hR
        generalize freeN l = F at *
        clear e1 e2 hr hat hlen
        go_enter Tryd.func36, Tryd.ntmps36
        go_wp2_with fail
        refine (hR.out _ HH.out).mono ?_
        rintro e w' ⟨rfl, rfl⟩
        go_wp2_with fail
        refine (hF.out _ HH.out).mono ?_
        rintro e w' ⟨rfl, rfl⟩
        go_wp2_with fail
        go_ret3
        exact ⟨_, _, rfl, bools_nil w, nats_nil w, Below.refl _ _, nilOk_nil⟩
      · obtain ⟨k, rfl⟩ := Int.eq_ofNat_of_zero_le h0
        have e1 : takeE l k = 0 := by unfold takeE; rw [if_pos ⟨hr, h0⟩, if_neg hm]
        have e2 : takeR l k = tk l k l.length := by unfold takeR; rw [e1]; rfl
        rw [e1, e2]
        exact roomTake_ok v l k w h hr (by omega)
    · have e1 : takeE l m = 1 := by unfold takeE; rw [if_neg (fun h => h0 h.2)]
      have e2 : takeR l m = ([], []) := by unfold takeR; rw [e1]; rfl
      rw [e1, e2]
      have HH := Lib.hid h
      obtain ⟨a, len, cap, rfl, hlen, hc1, hc2, hat⟩ := h
      rw [hr] at hR
      have h0' : m < 0 := by omega
      clear e1 e2 hr hat hlen h0
      go_enter Tryd.func36, Tryd.ntmps36
      go_wp2_with fail
      refine (hR.out _ HH.out).mono ?_
      rintro e w' ⟨rfl, rfl⟩
      go_wp2_with fail
      go_ret3
      exact ⟨_, _, rfl, bools_nil w, nats_nil w, Below.refl _ _, nilOk_nil⟩
  · have hr' : rightB l = false := by simpa using hr
    have e1 : takeE l m = 1 := by unfold takeE; rw [if_neg (fun h => hr h.1)]
    have e2 : takeR l m = ([], []) := by unfold takeR; rw [e1]; rfl
    rw [e1, e2]
    have HH := Lib.hid h
    obtain ⟨a, len, cap, rfl, hlen, hc1, hc2, hat⟩ := h
    rw [hr'] at hR
    clear e1 e2 hr hr' hat hlen
    go_enter Tryd.func36, Tryd.ntmps36
    go_wp2_with fail
    refine (hR.out _ HH.out).mono ?_
    rintro e w' ⟨rfl, rfl⟩
    go_wp2_with fail
    go_ret3
    exact ⟨_, _, rfl, bools_nil w, nats_nil w, Below.refl _ _, nilOk_nil⟩

/-- of a new row two sectors are taken -/
theorem new64 : rightB (newL 64) = true ∧ freeN (newL 64) = 10 ∧ (tk (newL 64) 2 64).2 = [54, 55] := by decide +kernel
end Go.Proofs.YtimiooiaohfelaaDoor
