/- The reference's Take. -/
import Derived.Test.YtgglejicbojiaaaDoorRefFree
import Derived.Test.YtgglejicbojiaaaDoorRoomT
import Derived.Test.YtgglejicbojiaaaDoorRow2
namespace Go.Proofs.YtgglejicbojiaaaDoor
open Go.RowKit
set_option linter.unusedVariables false

theorem tk_prefix (l : List Bool) (m k : Nat) (hk : k < l.length) :
    (tk l m (k + 1)).1.take (k + 1) = (tk l m k).1.take k ++ [if (tk l m k).2.length < m ∧ l.getD k true = false then true else l.getD k true] := by
  have hlen := tk_len l m k
  have hget : (tk l m k).1[k]? = some (l.getD k true) := by rw [tk_far _ _ _ _ (Nat.le_refl _)]; simp [List.getD, hk]
  rw [tk]
  split
  · rw [← List.take_append_getElem (by rw [List.length_set, hlen]; exact hk)]
    congr 1
    · apply List.ext_getElem
      · simp
      · intro i h1 h2
        simp only [List.length_take] at h2
        simp only [List.getElem_take, List.getElem_set]
        rw [if_neg (by omega)]
    · simp
  · rw [← List.take_append_getElem (by rw [hlen]; exact hk)]
    congr 2
    rw [List.getElem?_eq_getElem (by rw [hlen]; exact hk)] at hget
    exact Option.some.inj hget

set_option maxRecDepth 100000 in
set_option maxHeartbeats 1000000 in
theorem refTake_ok (v : Value) (l : List Bool) (m : Nat) (w : World) (h : IsBools w v l) (hr : rightB l = true) (hm : m ≤ freeN l) :
    Calls Tryd.prog 18 #[v, .int .i64 (m : Int)] w (TakePost 0 (tk l m l.length) w) := by
  obtain ⟨i0, hi, hz0, hz1, hz2⟩ := info_parts infoInt
  obtain ⟨i1, hi1, hy0, hy1, hy2⟩ := info_parts infoBool
  have hR := Lib.hid (fun u hu => refRight_any v l u hu)
  have hF := Lib.hid (fun u hu => refFree_any v l u hu)
  have hl256 := (rightB_len hr).2
  have hfl : freeN l ≤ l.length := List.count_le_length
  have hmF : (m : Int) ≤ freeN l := by omega
  have hm256 : (m : Int) ≤ 256 := by omega
  have hf256 : (freeN l : Int) ≤ 256 := by omega
  have HH := Lib.hid h
  obtain ⟨a, len, cap, rfl, hlen, hc1, hc2, hat⟩ := h
  rw [hr] at hR
  have hlI : (len : Int) ≤ 256 := by omega
  have HLEN := Lib.hid hlen; have HAT := Lib.hid hat
  generalize freeN l = F at *
  have hdec : decide (F < m) = false := decide_eq_false (by omega)
  clear hr hm hl256 hfl hat hlen
  go_enter Tryd.func18, Tryd.ntmps18
  go_wp2_with fail
  refine (hR.out _ HH.out).mono ?_
  rintro e w' ⟨rfl, rfl⟩
  go_wp2_with fail
  refine (hF.out _ HH.out).mono ?_
  rintro e w' ⟨rfl, rfl⟩
  clear hR hF
  go_wp2_with fail
  have ho7 : ((w.alloc (.cells #[] 4)).alloc (.cells #[] 3)).ownsRow w.heap.size 4 1 (.slice (some ⟨w.heap.size, 0, none⟩) 0 0) 0 [] := (World.ownsRow_made w #[] 0 (Nat.le_refl _) (by unfold maxLen; omega) rfl).alloc _
  have ho8 : ((w.alloc (.cells #[] 4)).alloc (.cells #[] 3)).ownsRow w.heap.size 3 1 (.slice (some ⟨w.heap.size + 1, 0, none⟩) 0 0) 0 [] := by
    have := World.ownsRow_made (base := w.heap.size) (e := 3) (size := 1) (w.alloc (.cells #[] 4)) #[] 0 (by simp) (by unfold maxLen; omega) rfl
    rwa [World.size_alloc] at this
  have hb0 := ((Below.refl w.heap.size w).alloc (Nat.le_refl _) (.cells #[] 4)).alloc (by simp) (.cells #[] 3)
  have HO7 := Lib.hid ho7; have HO8 := Lib.hid ho8
  clear ho7 ho8
  go_loopw [7, 8, 26] (fun b g c wr => ∃ k : Nat, k ≤ len ∧ c = .int .i64 k ∧ wr.ownsRow w.heap.size 4 1 b k (((tk l m k).1.take k).map Value.bool) ∧ wr.ownsRow w.heap.size 3 1 g (tk l m k).2.length ((tk l m k).2.map natV) ∧ Below w.heap.size w wr) (fun _ _ c _ => len - (intOf c).toNat)
  case atStart => exact ⟨0, by omega, rfl, HO7.out, HO8.out, hb0⟩
  case round =>
    clear HO7 HO8 hb0
    obtain ⟨k, hk, rfl, hown7, hown8, hbel⟩ := hrel
    obtain ⟨A, c8, rfl, hA1, hA2⟩ := own_form1 hown8
    by_cases hlt : k < len
    · have hkl : k < l.length := by have := HLEN.out; omega
      have hpre := tk_prefix l m k hkl
      have hgd : l.getD k true = l[k] := by simp [List.getD, hkl]
      have hfew := tk_few l m k
      have htk : tk l m (k + 1) = if (tk l m k).2.length < m ∧ l.getD k true = false then ((tk l m k).1.set k true, (tk l m k).2 ++ [k]) else tk l m k := rfl
      rw [hgd] at htk hpre
      obtain ⟨b, off, rfl, hb, hat⟩ := HAT.out.resolve_left (by omega)
      have hcell := (hbel.cell (p := ⟨b, off + k, none⟩) hb).trans (hat k hkl)
      have H7 := Lib.hid hown7; have H8 := Lib.hid hown8; have HT := Lib.hid htk; have HP := Lib.hid hpre
      have hkI : (k : Int) < len := by omega
      clear hown7 hown8 htk hpre hat hgd
      cases hb : l[k]
      · rw [hb] at hcell HT HP
        by_cases hn : (tk l m k).2.length < m
        · have hnI : ((tk l m k).2.length : Int) < m := by omega
          have hT2 := HT.out
          have hP2 := HP.out
          rw [if_pos ⟨hn, rfl⟩] at hT2 hP2
          rw [hT2] at hP2
          have HT2 := Lib.hid hT2; have HP2 := Lib.hid hP2
          clear hT2 hP2 HT HP hb hn
          generalize (tk l m k).2 = G at *
          generalize (tk l m k).1 = R at *
          go_wp2_with (first | (at_builtin; go_must (refine wpList_push3 _ _ 39 3 (natV k) H7.out (by decide) H8.out hbel (Nat.le_refl _) Tryd.underlying39 hi hz0 hz1 hz2 rfl rfl rfl rfl rfl rfl ?c1 ?_)))
          case c1 => omega
          intro v8 w8 hown8 hbel8 hown7
          have H7' := Lib.hid hown7; have H8' := Lib.hid hown8
          clear hbel hown7 hown8
          go_wp2_with (first | (at_builtin; go_must (refine wpList_push3 _ _ 22 4 (.bool true) H8'.out (by decide) H7'.out hbel8 (Nat.le_refl _) Tryd.underlying22 hi1 hy0 hy1 hy2 rfl rfl rfl rfl rfl rfl ?c2 ?_)))
          case c2 => omega
          intro v9 w9 hown7 hbel9 hown8
          have H7'' := Lib.hid hown7; have H8'' := Lib.hid hown8
          clear hbel8 hown7 hown8
          go_wp2_with fail
          go_roundw
          case rel =>
            refine ⟨k + 1, by omega, by go_num, ?_, ?_, hbel9⟩
            · rw [HT2.out, HP2.out, List.map_append, List.map_take]; exact H7''.out
            · rw [HT2.out]; simpa using H8''.out
          case measure => simp [intOf]; omega
        · have hnI : (m : Int) ≤ ((tk l m k).2.length : Int) := by omega
          have hT2 := HT.out
          have hP2 := HP.out
          rw [if_neg (fun h => hn h.1)] at hT2 hP2
          rw [hT2] at hP2
          have HT2 := Lib.hid hT2; have HP2 := Lib.hid hP2
          clear hT2 hP2 HT HP hb hn
          go_wp2_with (first | (at_builtin; go_must (refine wpList_push3 _ _ 22 4 (.bool false) H8.out (by decide) H7.out hbel (Nat.le_refl _) Tryd.underlying22 hi1 hy0 hy1 hy2 rfl rfl rfl rfl rfl rfl ?c3 ?_)))
          case c3 => omega
          intro v9 w9 hown7 hbel9 hown8
          have H7'' := Lib.hid hown7; have H8'' := Lib.hid hown8
          clear hbel hown7 hown8
          go_wp2_with fail
          go_roundw
          case rel =>
            refine ⟨k + 1, by omega, by go_num, ?_, ?_, hbel9⟩
            · rw [HT2.out, HP2.out, List.map_append, List.map_take]; exact H7''.out
            · rw [HT2.out]; exact H8''.out
          case measure => simp [intOf]; omega
      · rw [hb] at hcell HT HP
        have hT2 := HT.out
        have hP2 := HP.out
        rw [if_neg (by simp)] at hT2 hP2
        rw [hT2] at hP2
        have HT2 := Lib.hid hT2; have HP2 := Lib.hid hP2
        clear hT2 hP2 HT HP hb
        go_wp2_with (first | (at_builtin; go_must (refine wpList_push3 _ _ 22 4 (.bool true) H8.out (by decide) H7.out hbel (Nat.le_refl _) Tryd.underlying22 hi1 hy0 hy1 hy2 rfl rfl rfl rfl rfl rfl ?c4 ?_)))
        case c4 => omega
        intro v9 w9 hown7 hbel9 hown8
        have H7'' := Lib.hid hown7; have H8'' := Lib.hid hown8
        clear hbel hown7 hown8
        go_wp2_with fail
        go_roundw
        case rel =>
          refine ⟨k + 1, by omega, by go_num, ?_, ?_, hbel9⟩
          · rw [HT2.out, HP2.out, List.map_append, List.map_take]; exact H7''.out
          · rw [HT2.out]; exact H8''.out
        case measure => simp [intOf]; omega
    · obtain rfl : k = len := by omega
      have hall : (tk l m k).1.take k = (tk l m k).1 := List.take_of_length_le (by rw [tk_len]; have := HLEN.out; omega)
      rw [hall] at hown7
      have H1 := Lib.hid (own_reads1 hown7 (by rw [tk_len]; exact HLEN.out)); have H2 := Lib.hid (own_reads1 hown8 rfl); have H3 := Lib.hid (nilOk_own hown8)
      clear hown7 hown8 hall
      go_wp2_with fail
      go_ret3
      exact ⟨_, _, rfl, by rw [HLEN.out]; exact H1.out, by rw [HLEN.out]; exact H2.out, hbel, H3.out⟩

set_option maxRecDepth 100000 in
set_option maxHeartbeats 1000000 in
theorem refTake_any (v : Value) (l : List Bool) (m : Int) (w : World) (h : IsBools w v l) :
    Calls Tryd.prog 18 #[v, .int .i64 m] w (TakePost (takeE l m) (takeR l m) w) := by
  have hR := Lib.hid (fun u hu => refRight_any v l u hu)
  have hF := Lib.hid (fun u hu => refFree_any v l u hu)
  by_cases hr : rightB l = true
  · by_cases h0 : 0 ≤ m
    · by_cases hm : (freeN l : Int) < m
      · have e1 : takeE l m = 31 := by unfold takeE; rw [if_pos ⟨hr, h0⟩, if_pos hm]
        have e2 : takeR l m = ([], []) := by unfold takeR; rw [e1]; rfl
        have hf : (freeN l : Int) ≤ 256 := by
          have h1 := rightB_len hr
          have : freeN l ≤ l.length := List.count_le_length
          omega
        rw [e1, e2]
        have HH := Lib.hid h
        obtain ⟨a, len, cap, rfl, hlen, hc1, hc2, hat⟩ := h
        rw [hr] at hR
        generalize freeN l = F at *
        clear e1 e2 hr hat hlen
        go_enter Tryd.func18, Tryd.ntmps18
        go_wp2_with fail
        refine (hR.out _ HH.out).mono ?_
        rintro e w' ⟨rfl, rfl⟩
        go_wp2_with fail
        refine (hF.out _ HH.out).mono ?_
        rintro e w' ⟨rfl, rfl⟩
        go_wp2_with fail
        go_ret3
        exact ⟨_, _, rfl, bools_nil w, nats_nil w, Below.refl _ _, nilOk_nil⟩
      · obtain ⟨k, rfl⟩ := Int.eq_ofNat_of_zero_le h0
        have e1 : takeE l k = 0 := by unfold takeE; rw [if_pos ⟨hr, h0⟩, if_neg hm]
        have e2 : takeR l k = tk l k l.length := by unfold takeR; rw [e1]; rfl
        rw [e1, e2]
        exact refTake_ok v l k w h hr (by omega)
    · have e1 : takeE l m = 1 := by unfold takeE; rw [if_neg (fun h => h0 h.2)]
      have e2 : takeR l m = ([], []) := by unfold takeR; rw [e1]; rfl
      rw [e1, e2]
      have HH := Lib.hid h
      obtain ⟨a, len, cap, rfl, hlen, hc1, hc2, hat⟩ := h
      rw [hr] at hR
      have h0' : m < 0 := by omega
      clear e1 e2 hr hat hlen h0
      go_enter Tryd.func18, Tryd.ntmps18
      go_wp2_with fail
      refine (hR.out _ HH.out).mono ?_
      rintro e w' ⟨rfl, rfl⟩
      go_wp2_with fail
      go_ret3
      exact ⟨_, _, rfl, bools_nil w, nats_nil w, Below.refl _ _, nilOk_nil⟩
  · have hr' : rightB l = false := by simpa using hr
    have e1 : takeE l m = 1 := by unfold takeE; rw [if_neg (fun h => hr h.1)]
    have e2 : takeR l m = ([], []) := by unfold takeR; rw [e1]; rfl
    rw [e1, e2]
    have HH := Lib.hid h
    obtain ⟨a, len, cap, rfl, hlen, hc1, hc2, hat⟩ := h
    rw [hr'] at hR
    clear e1 e2 hr hr' hat hlen
    go_enter Tryd.func18, Tryd.ntmps18
    go_wp2_with fail
    refine (hR.out _ HH.out).mono ?_
    rintro e w' ⟨rfl, rfl⟩
    go_wp2_with fail
    go_ret3
    exact ⟨_, _, rfl, bools_nil w, nats_nil w, Below.refl _ _, nilOk_nil⟩

end Go.Proofs.YtgglejicbojiaaaDoor
