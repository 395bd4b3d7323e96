/- DiskWr, DiskO, Rep, DiskFl, DiskNo, Ref03R, Ref03W, Ref03L, RefDo, DiskAny, in one text. -/
import Derived.Test.YthnmnnlbglpjaaaGreatDoorPkB
import Derived.Test.YthnmnnlbglpjaaaGreatDoorPkA
import Derived.Deep.RegionWith
import Derived.Test.YthnmnnlbglpjaaaGreatDoorShelf
import Derived.Laws.CopyOwn
import Derived.Deep.RegionLaw
import Derived.Deep.RegionHeld3
import Derived.Deep.QuietTactic
namespace Go.Proofs.YthnmnnlbglpjaaaGreatDoor
section SDiskWr
open Go.RowKit
set_option linter.unusedVariables false

set_option maxRecDepth 100000 in
set_option maxHeartbeats 400000 in
theorem cloneWrts_any (v : Value) (l : List Wrt) (w : World) (h : IsWrts w v l) (h1 : l.length ≤ 1000) :
    Calls Tryz.prog 60 #[v] w fun e w' => (∃ v', e = .returned v' ∧ w'.ownsRow w.heap.size 46 2 v' l.length (wcells l)) ∧ Below w.heap.size w w' := by
  obtain ⟨i0, hi, hz0, hz1, hz2⟩ := info_parts infoWrt
  obtain ⟨a, len, cap, rfl, rfl, hc1, hc2, hbs, hat⟩ := h
  have heq := fun u => Lib.run_eql_slice_nil (P := Tryz.prog) u 23 46 a l.length cap 0 0 Tryz.underlying23
  cases a with
  | none =>
    obtain rfl : l = [] := by
      rcases hat with h | ⟨b, off, h, _⟩
      · exact List.length_eq_zero_iff.1 h
      · cases h
    have heq0 := fun u => Lib.run_eql_slice_nil (P := Tryz.prog) u 23 46 none 0 cap 0 0 Tryz.underlying23
    clear heq
    rw [List.length_nil]
    go_enter Tryz.func60, Tryz.ntmps60
    go_wp2_with fail
    go_ret
    exact ⟨⟨_, rfl, World.ownsRow_nil _ _ _ _⟩, Below.refl _ _⟩
  | some ad =>
    have hb61 := (Below.refl w.heap.size w).alloc (Nat.le_refl _) (.cells #[] 46)
    have hown0 : (w.alloc (.cells #[] 46)).ownsRow w.heap.size 46 2 (.slice (some ⟨w.heap.size, 0, none⟩) 0 0) 0 [] := World.ownsRow_made w #[] 0 (Nat.le_refl _) (by unfold maxLen; omega) rfl
    have hsrc : ∀ j u, (wcells l)[j]? = some u → (w.alloc (.cells #[] 46)).cell? (ad.add j) = some u := fun j u hj => by
      obtain ⟨i, hil, hh⟩ := wcells_at l j u hj
      obtain ⟨b, off, e, hb, hcc⟩ := hat.resolve_left (by omega)
      cases e
      obtain ⟨c0, c1⟩ := (hcc i hil).below hb61 hb
      rw [addr_add]
      rcases hh with ⟨rfl, rfl⟩ | ⟨rfl, rfl⟩
      · exact c0
      · exact c1
    have h1c := wcells_one l
    have hwl : (wcells l).length = l.length * 2 := wcells_len l
    have HO := Lib.hid hown0; have HS := Lib.hid hsrc; have HWL := Lib.hid hwl
    clear hown0 hsrc hbs hat hwl
    go_enter Tryz.func60, Tryz.ntmps60
    go_wp2_with (first | (at_builtin; go_must (refine wpList_extend _ _ 23 46 (wcells l) HO.out hb61 (Nat.le_refl _) Tryz.underlying23 hi hz0 hz1 hz2 rfl (by decide) rfl rfl rfl rfl (.inr ⟨_, rfl, HS.out⟩) HWL.out h1c ?c2 ?_)))
    case c2 => omega
    intro v8 w8 hown8 hb8
    go_wp2_with fail
    go_ret
    exact ⟨⟨_, rfl, hown8⟩, hb8⟩
def IsPower (w : World) (v : Value) (d : Dsk) (left : Int) : Prop := ∃ sv pv, v = .agg #[sv, pv, .int .i64 left] ∧ IsStrs w sv d.secs ∧ IsWrts w pv d.pend
def spentI (left : Int) : Int := if 0 < left then left - 1 else left
theorem diskSpent_any (left : Int) (w : World) (hl : -9223372036854775808 ≤ left) (hl2 : left ≤ 9223372036854775807) : Calls Tryz.prog 99 #[.int .i64 left] w fun e w' => e = .returned (.int .i64 (spentI left)) ∧ w = w' := by
  by_cases h : 0 < left
  · have e : spentI left = left - 1 := if_pos h
    rw [e]
    go_enter Tryz.func99, Tryz.ntmps99
    go_wp2_with fail
    go_ret
    exact ⟨rfl, rfl⟩
  · have e : spentI left = left := if_neg h
    rw [e]
    go_enter Tryz.func99, Tryz.ntmps99
    go_wp2_with fail
    go_ret
    exact ⟨rfl, rfl⟩
set_option maxRecDepth 100000 in
theorem diskReady_ok (v : Value) (d : Dsk) (left : Int) (w : World) (h : IsPower w v d left) (h0 : left ≠ 0) (hr : rightD d = true) :
    Calls Tryz.prog 98 #[v] w fun e w' => e = .returned (.int .i64 0) ∧ Below w.heap.size w w' := by
  obtain ⟨sv, pv, rfl, hs, hp⟩ := h
  have hd : IsDisk w (.agg #[sv, pv]) d := ⟨_, _, rfl, hs, hp⟩
  obtain ⟨a, cap, a', cap', hv, hc1, hc2, hc1', hc2'⟩ := hd.form
  injection hv with hv
  obtain rfl : sv = .slice a d.secs.length cap := by have := congrArg (fun z : Array Value => z[0]?) hv; simpa using this
  obtain rfl : pv = .slice a' d.pend.length cap' := by have := congrArg (fun z : Array Value => z[1]?) hv; simpa using this
  have HR := Lib.hid (fun u hu => diskRight_any (.agg #[.slice a d.secs.length cap, .slice a' d.pend.length cap']) d u hu)
  rw [hr] at HR
  have HD := Lib.hid hd
  generalize d.secs.length = m at *
  generalize d.pend.length = k at *
  clear hs hp hd hv hr
  go_enter Tryz.func98, Tryz.ntmps98
  go_wp2_with fail
  have hb1 := (Below.refl w.heap.size w).alloc (Nat.le_refl _) (.cells #[.slice a m cap, .slice a' k cap', .int .i64 left] 27)
  refine (HR.out _ (HD.out.below hb1)).mono ?_
  rintro e w2 ⟨rfl, hb2⟩
  have hw2 := hb1.trans (hb2.mono hb1.size)
  clear hb1 hb2
  go_wp2_with fail
  go_ret
  exact ⟨rfl, hw2⟩
def writeD (d : Dsk) (s : Int) (x : ByteArray) : Dsk := ⟨d.secs, d.pend ++ [⟨s, trimS x⟩]⟩
set_option maxRecDepth 100000 in
set_option maxHeartbeats 1000000 in
theorem diskWrite_ok (v : Value) (d : Dsk) (left s : Int) (x : ByteArray) (w : World) (h : IsPower w v d left) (h0 : left ≠ 0) (hlo : -9223372036854775808 ≤ left) (hhi : left ≤ 9223372036854775807) (hr : rightD d = true)
    (hs : 0 ≤ s ∧ s < d.secs.length) (hx : (trimS x).size ≤ 512) (hxs : x.size ≤ 9223372036854775807) (hk4 : d.pend.length ≤ 1000) :
    Calls Tryz.prog 69 #[v, .int .i64 s, .string x] w fun e w' => ∃ v', e = .returned (.tuple #[v', .int .i64 0]) ∧ IsPower w' v' (writeD d s x) (spentI left) ∧ Below w.heap.size w w' := by
  obtain ⟨i0, hi, hz0, hz1, hz2⟩ := info_parts infoWrt
  have HRY := Lib.hid (fun u hu => diskReady_ok v d left u hu h0 hr)
  have hrl := right_len d hr
  obtain ⟨sv, pv, rfl, hss, hpp⟩ := h
  have hd : IsDisk w (.agg #[sv, pv]) d := ⟨_, _, rfl, hss, hpp⟩
  obtain ⟨a, cap, a', cap', hv, hc1, hc2, hc1', hc2'⟩ := hd.form
  injection hv with hv
  obtain rfl : sv = .slice a d.secs.length cap := by have := congrArg (fun z : Array Value => z[0]?) hv; simpa using this
  obtain rfl : pv = .slice a' d.pend.length cap' := by have := congrArg (fun z : Array Value => z[1]?) hv; simpa using this
  have HP := Lib.hid (fun u (hb : Below w.heap.size w u) => show IsPower u _ d left from ⟨_, _, rfl, hss.below hb, hpp.below hb⟩)
  have HH := Lib.hid (fun u hu => diskHas_any (.agg #[.slice a d.secs.length cap, .slice a' d.pend.length cap']) d s u hu)
  rw [decide_eq_true hs] at HH
  have HD := Lib.hid hd
  have HCW := Lib.hid (fun u (hb : Below w.heap.size w u) => cloneWrts_any _ d.pend u (hpp.below hb) hk4)
  have HCS := Lib.hid (fun u (hb : Below w.heap.size w u) => cloneStrs_any _ d.secs u (hss.below hb) (by omega) (by omega))
  have HSP := Lib.hid (fun u => diskSpent_any left u hlo hhi)
  have HT := Lib.hid (fun u => leTrim_any x u hxs)
  have HPB := Lib.hid (wrts_bnd hpp); have HSB := Lib.hid (strs_bnd hss)
  generalize hm : d.secs.length = m at *
  generalize hk : d.pend.length = k at *
  generalize hX : trimS x = X at *
  have hxI : (X.size : Int) ≤ 512 := by omega
  have HM := Lib.hid hm; have HK := Lib.hid hk; have HX := Lib.hid hX; have HS := Lib.hid hs
  clear hss hpp hd hv hr hm hk hX h0 hs
  go_enter Tryz.func69, Tryz.ntmps69
  go_wp2_with fail
  have hb2 : Below w.heap.size w ((w.alloc (.cells #[.slice a m cap, .slice a' k cap', .int .i64 left] 27)).alloc (.cells #[.slice none 0 0, .slice none 0 0, .int .i64 0] 27)) := ((Below.refl w.heap.size w).alloc (Nat.le_refl _) _).alloc (by simp) _
  have hA : ((w.alloc (.cells #[.slice a m cap, .slice a' k cap', .int .i64 left] 27)).alloc (.cells #[.slice none 0 0, .slice none 0 0, .int .i64 0] 27)).heap[w.heap.size]? = some (.cells #[.slice a m cap, .slice a' k cap', .int .i64 left] 27 (0, 0)) := (Below.heap_alloc _ _ _ (by simp)).trans (heap_alloc_new w _)
  have hB : ((w.alloc (.cells #[.slice a m cap, .slice a' k cap', .int .i64 left] 27)).alloc (.cells #[.slice none 0 0, .slice none 0 0, .int .i64 0] 27)).heap[w.heap.size + 1]? = some (.cells #[.slice none 0 0, .slice none 0 0, .int .i64 0] 27 (0, 0)) := by
    have := heap_alloc_new (w.alloc (.cells #[.slice a m cap, .slice a' k cap', .int .i64 left] 27)) (.cells #[.slice none 0 0, .slice none 0 0, .int .i64 0] 27)
    rwa [World.size_alloc] at this
  obtain ⟨w2, hW2⟩ : ∃ w2, ((w.alloc (.cells #[.slice a m cap, .slice a' k cap', .int .i64 left] 27)).alloc (.cells #[.slice none 0 0, .slice none 0 0, .int .i64 0] 27)) = w2 := ⟨_, rfl⟩
  rw [hW2] at hb2 hA hB ⊢
  clear hW2
  refine (HRY.out w2 (HP.out _ hb2)).mono ?_
  rintro e w3 ⟨rfl, hb3⟩
  have hA3 := (hb3.block _ (Array.getElem?_eq_some_iff.1 hA).1).trans hA
  have hB3 := (hb3.block _ (Array.getElem?_eq_some_iff.1 hB).1).trans hB
  have hw3 := hb2.trans (hb3.mono hb2.size)
  have x0 := below_cell (Below.refl _ w3) hA3 0 rfl
  have x1 := below_cell (Below.refl _ w3) hA3 1 rfl
  clear hb2 hA hB hb3 HRY
  go_wp2_with fail
  refine (HH.out w3 (HD.out.below hw3)).mono ?_
  rintro e w4 ⟨rfl, hb4⟩
  have hA4 := (hb4.block _ (Array.getElem?_eq_some_iff.1 hA3).1).trans hA3
  have hB4 := (hb4.block _ (Array.getElem?_eq_some_iff.1 hB3).1).trans hB3
  have hw4 := hw3.trans (hb4.mono hw3.size)
  clear hw3 hA3 hB3 hb4 x0 x1 HH
  go_wp2_with fail
  refine (HT.out w4).mono ?_
  rintro e w5 ⟨rfl, rfl⟩
  have x0 := below_cell (Below.refl _ w4) hA4 0 rfl
  have x1 := below_cell (Below.refl _ w4) hA4 1 rfl
  clear HT
  go_wp2_with fail
  refine (HCW.out w4 hw4).mono ?_
  rintro e w5 ⟨⟨pv', rfl, hown⟩, hb5⟩
  have hA5 := (hb5.block _ (Array.getElem?_eq_some_iff.1 hA4).1).trans hA4
  have hB5 := (hb5.block _ (Array.getElem?_eq_some_iff.1 hB4).1).trans hB4
  have hw5 := hw4.trans (hb5.mono hw4.size)
  have hbb := Below.refl w4.heap.size w5
  have hsz5 := hb5.size
  have hlt4 := (Array.getElem?_eq_some_iff.1 hB4).1
  clear hA4 hB4 x0 x1 HCW
  go_wp2_with (first | (at_builtin; go_must (refine wpList_push _ _ 23 46 hown hbb hsz5 Tryz.underlying23 hi hz0 hz1 hz2 rfl (by decide) rfl rfl rfl rfl rfl ?c3 ?c4 ?_)))
  case c3 =>
    intro u hu
    simp only [List.mem_cons, List.not_mem_nil, or_false] at hu
    rcases hu with rfl | rfl <;> rfl
  case c4 => omega
  intro pw w6 hown6 hb6
  obtain ⟨na, nc, rfl⟩ := own_form hown6
  have hA6 := (hb6.block _ (show w.heap.size < w4.heap.size by omega)).trans hA5
  have hB6 := (hb6.block _ (show w.heap.size + 1 < w4.heap.size by omega)).trans hB5
  have hw6 := hw5.trans (hb6.mono hw4.size)
  have hnw : w6.ownsRow w4.heap.size 46 2 (.slice na (k + 1) nc) (k + 1) (wcells (d.pend ++ [⟨s, X⟩])) := by
    rw [wcells_append]; exact hown6
  have hnb : ∀ y ∈ d.pend ++ [(⟨s, X⟩ : Wrt)], y.bounded := by
      intro y hy
      rcases List.mem_append.1 hy with hy | hy
      · exact HPB.out y hy
      · rw [List.mem_singleton.1 hy]
        have := HS.out
        exact ⟨⟨by show _ ≤ s; omega, by show s ≤ _; omega⟩, by show X.size ≤ _; omega⟩
  have x0 := below_cell (Below.refl _ w6) hA6 0 rfl
  have x1 := below_cell (Below.refl _ w6) hA6 1 rfl
  have HNW := Lib.hid hnw; have HNB := Lib.hid hnb
  have hl4 : w.heap.size + 1 < w4.heap.size := hlt4
  have hl6 : w.heap.size + 1 < w6.heap.size := (Array.getElem?_eq_some_iff.1 hB6).1
  clear hnb hown hbb hsz5 hA5 hB5 hb5 hw5 hw4 hlt4 hown6 hb6 hnw
  go_wp2_with fail
  refine (HCS.out w6 hw6).mono ?_
  rintro e w7 ⟨⟨g, gc, rfl, hown7⟩, hb7⟩
  have hA7 := (hb7.block _ (Array.getElem?_eq_some_iff.1 hA6).1).trans hA6
  have hB7 := (hb7.block _ (Array.getElem?_eq_some_iff.1 hB6).1).trans hB6
  have hw7 := hw6.trans (hb7.mono hw6.size)
  have hnw7 := own_keep HNW.out hb7
  have hd8 := (Below.refl _ w7).alloc (Nat.le_refl _) (.cells #[.slice (some ⟨g, 0, none⟩) m gc, .slice na (k + 1) nc] 25)
  have hw8 : Below w.heap.size w (w7.alloc (.cells #[.slice (some ⟨g, 0, none⟩) m gc, .slice na (k + 1) nc] 25)) := hw7.alloc hw7.size _
  have hA8 := (heap_alloc_old w7 (.cells #[.slice (some ⟨g, 0, none⟩) m gc, .slice na (k + 1) nc] 25) (Array.getElem?_eq_some_iff.1 hA7).1).trans hA7
  have hB8 := (heap_alloc_old w7 (.cells #[.slice (some ⟨g, 0, none⟩) m gc, .slice na (k + 1) nc] 25) (Array.getElem?_eq_some_iff.1 hB7).1).trans hB7
  have hC8 := heap_alloc_new w7 (.cells #[.slice (some ⟨g, 0, none⟩) m gc, .slice na (k + 1) nc] 25)
  have HNS := Lib.hid (own_keep hown7 hd8); have HNW8 := Lib.hid (own_keep hnw7 hd8)
  clear hown7 hnw7 hd8 hA6 hB6 hb7 hw6 hA7 hB7 hw7 HNW x0 x1
  go_wp2_with fail
  obtain ⟨w8, hW8⟩ : ∃ w8, w7.alloc (.cells #[.slice (some ⟨g, 0, none⟩) m gc, .slice na (k + 1) nc] 25) = w8 := ⟨_, rfl⟩
  rw [hW8] at hw8 hA8 hB8 hC8 HNS HNW8 ⊢
  clear hW8
  have y0 := below_cell (Below.refl _ w8) hC8 0 rfl
  have y1 := below_cell (Below.refl _ w8) hC8 1 rfl
  have x2 := below_cell (Below.refl _ w8) hA8 2 rfl
  have z0 := below_cell (Below.refl _ w8) hB8 0 rfl
  have z1 := below_cell (Below.refl _ w8) hB8 1 rfl
  have z2 := below_cell (Below.refl _ w8) hB8 2 rfl
  have f0 := block_frozen hB8 0
  have f1 := block_frozen hB8 1
  have f2 := block_frozen hB8 2
  obtain ⟨sl, hsl⟩ : ∃ sl, spentI left = sl := ⟨_, rfl⟩
  rw [hsl] at HSP
  have HSL := Lib.hid hsl
  clear hsl
  have hset := block_set (block_set (block_set hB8 0 (.slice (some ⟨g, 0, none⟩) m gc)) 1 (.slice na (k + 1) nc)) 2 (.int .i64 sl)
  rw [show ((((#[Value.slice none 0 0, .slice none 0 0, .int .i64 0] : Array Value).setIfInBounds 0 (.slice (some ⟨g, 0, none⟩) m gc)).setIfInBounds 1 (.slice na (k + 1) nc)).setIfInBounds 2 (.int .i64 sl)) = #[.slice (some ⟨g, 0, none⟩) m gc, .slice na (k + 1) nc, .int .i64 sl] from rfl] at hset
  have HSET := Lib.hid hset
  clear hset hA8 hB8 hC8
  go_region_with (go_at_call 99; refine (HSP.out _).mono ?_; rintro e w' ⟨rfl, rfl⟩)
  all_goals
    go_wp2_with fail
    refine bodyPost_ret (results_row_tmp rfl _ _ (w.heap.size + 1) _ _ _ _ rfl HSET.out Tryz.underlying27 rfl (by kernel_rfl)) rfl ⟨.agg #[.slice (some ⟨g, 0, none⟩) m gc, .slice na (k + 1) nc, .int .i64 sl], by first | (simp; rfl) | (simp [Act.put]; done), ⟨_, _, by rw [HSL.out], ?_, ?_⟩, ?_⟩
    · exact own_strs (ownsRow_setCell_below (ownsRow_setCell_below (ownsRow_setCell_below HNS.out.drew (a := ⟨w.heap.size + 1, 0, none⟩) hl6 _) (a := ⟨w.heap.size + 1, 1, none⟩) hl6 _) (a := ⟨w.heap.size + 1, 2, none⟩) hl6 _) HSB.out
    · show IsWrts _ _ (d.pend ++ [⟨s, trimS x⟩])
      rw [HX.out]
      exact own_wrts (ownsRow_setCell_below (ownsRow_setCell_below (ownsRow_setCell_below HNW8.out.drew (a := ⟨w.heap.size + 1, 0, none⟩) hl4 _) (a := ⟨w.heap.size + 1, 1, none⟩) hl4 _) (a := ⟨w.heap.size + 1, 2, none⟩) hl4 _) HNB.out
    · exact ((hw8.drew.setCell (p := ⟨w.heap.size + 1, 0, none⟩) (by simp) _).setCell (p := ⟨w.heap.size + 1, 1, none⟩) (by simp) _).setCell (p := ⟨w.heap.size + 1, 2, none⟩) (by simp) _
end SDiskWr
section SDiskO
open Go.RowKit
set_option linter.unusedVariables false

theorem fits_trim (x : ByteArray) (h : (trimS x).size ≤ 512) : fitsB (trimS x) = true := decide_eq_true ⟨h, trimS_twice x⟩
theorem write_right (d : Dsk) (s : Int) (x : ByteArray) (h : rightD d = true) (hs : 0 ≤ s ∧ s < d.secs.length) (hx : (trimS x).size ≤ 512) : rightD (writeD d s x) = true := by
  unfold rightD at h ⊢
  simp only [Bool.and_eq_true] at h
  show (decide (1 ≤ d.secs.length ∧ d.secs.length ≤ 256) && d.secs.all fitsB && (d.pend ++ [(⟨s, trimS x⟩ : Wrt)]).all (Wrt.fits d.secs.length)) = true
  rw [h.1.1, h.1.2, List.all_append, h.2, List.all_cons, List.all_nil]
  simp only [Wrt.fits, fits_trim x hx, decide_eq_true hs, Bool.and_self]
theorem tellsL_append (d : Dsk) (y : Wrt) (n : Nat) : ∀ k, k ≤ d.pend.length → tellsL ⟨d.secs, d.pend ++ [y]⟩ n k = tellsL d n k
  | 0, _ => rfl
  | k + 1, h => by
    have e : (d.pend ++ [y]).getD k wrtZ = d.pend.getD k wrtZ := by
      rw [List.getD_eq_getElem?_getD, List.getElem?_append_left (by omega), ← List.getD_eq_getElem?_getD]
    rw [tellsL, tellsL, tellsL_append d y n k (by omega)]
    show (if ((d.pend ++ [y]).getD k wrtZ).sector = n then ((d.pend ++ [y]).getD k wrtZ).bytes else _) = _
    rw [e]
theorem write_tells (d : Dsk) (s : Int) (x : ByteArray) (n : Nat) : tells (writeD d s x) n = if s = n then trimS x else tells d n := by
  unfold tells writeD
  show tellsL ⟨d.secs, d.pend ++ [(⟨s, trimS x⟩ : Wrt)]⟩ n (d.pend ++ [(⟨s, trimS x⟩ : Wrt)]).length = _
  rw [List.length_append, List.length_singleton, tellsL, tellsL_append d _ n _ (Nat.le_refl _)]
  have e : (d.pend ++ [(⟨s, trimS x⟩ : Wrt)]).getD d.pend.length wrtZ = ⟨s, trimS x⟩ := by
    rw [List.getD_eq_getElem?_getD, List.getElem?_append_right (Nat.le_refl _)]; simp
  show (if ((d.pend ++ [(⟨s, trimS x⟩ : Wrt)]).getD d.pend.length wrtZ).sector = n then ((d.pend ++ [(⟨s, trimS x⟩ : Wrt)]).getD d.pend.length wrtZ).bytes else _) = _
  rw [e]
theorem IsPower.below {w w' : World} {v : Value} {d : Dsk} {left : Int} (h : IsPower w v d left) (hb : Below w.heap.size w w') : IsPower w' v d left := by
  obtain ⟨sv, pv, rfl, h1, h2⟩ := h
  exact ⟨sv, pv, rfl, h1.below hb, h2.below hb⟩
theorem IsPower.form {w : World} {v : Value} {d : Dsk} {left : Int} (h : IsPower w v d left) : ∃ a cap a' cap', v = .agg #[.slice a d.secs.length cap, .slice a' d.pend.length cap', .int .i64 left] ∧ IsDisk w (.agg #[.slice a d.secs.length cap, .slice a' d.pend.length cap']) d := by
  obtain ⟨sv, pv, rfl, h1, h2⟩ := h
  have h3 := h1; have h4 := h2
  obtain ⟨a, len, cap, rfl, rfl, _⟩ := h1
  obtain ⟨a', len', cap', rfl, rfl, _⟩ := h2
  exact ⟨a, cap, a', cap', rfl, ⟨_, _, rfl, h3, h4⟩⟩
theorem power_of {w : World} {sv pv : Value} {d : Dsk} (left : Int) (h : IsDisk w (.agg #[sv, pv]) d) : IsPower w (.agg #[sv, pv, .int .i64 left]) d left := ⟨sv, pv, rfl, h.secs, h.pend⟩
theorem rot_in (x : Int) (i : Nat) (h0 : 0 < i) (h1 : i ≤ 300) : ∃ B : Nat, (wrap64 (x.tmod i + i)).tmod i = B ∧ B < i ∧ wrap64 (x.tmod i + i) = x.tmod i + i ∧ (x.tmod i + i).tmod i = B := by
  have ha : x.tmod i < i := Int.tmod_lt_of_pos x (by omega)
  have hb : -(i : Int) < x.tmod i := Int.lt_tmod_of_pos x (by omega)
  have hw : wrap64 (x.tmod i + i) = x.tmod i + i := by unfold wrap64; omega
  have he : (x.tmod i + i).tmod i = (x.tmod i + i) % i := Int.tmod_eq_emod_of_nonneg (by omega)
  rw [hw, he]
  refine ⟨((x.tmod i + i) % i).toNat, ?_, ?_, rfl, ?_⟩
  · have := Int.emod_nonneg (x.tmod i + i) (show (i : Int) ≠ 0 by omega); omega
  · have := Int.emod_lt_of_pos (x.tmod i + i) (show (0 : Int) < i by omega); omega
  · have := Int.emod_nonneg (x.tmod i + i) (show (i : Int) ≠ 0 by omega); omega
theorem IsStrs.apart {w w' : World} {v : Value} {l : List ByteArray} (h : IsStrs w v l) {g : Nat} {cs : Array Value} {t : TypeId} {fr : Nat × Nat} (hg : w.heap[g]? = some (.cells cs t fr)) (hno : ∀ (j : Nat) (s : ByteArray), cs[j]? ≠ some (Value.string s))
    (hs : w.heap.size ≤ w'.heap.size) (hk : ∀ b, b ≠ g → w'.heap[b]? = w.heap[b]?) : IsStrs w' v l := by
  obtain ⟨a, len, cap, rfl, hl, h1, h2, h3, hat⟩ := h
  refine ⟨a, len, cap, rfl, hl, h1, h2, h3, ?_⟩
  by_cases h0 : len = 0
  · exact .inl h0
  · obtain ⟨b, off, rfl, hb, hat⟩ := hat.resolve_left h0
    by_cases e : b = g
    · subst e
      have := hat 0 (by omega)
      rw [cell_of_row _ _ _ _ _ _ hg] at this
      exact absurd this (hno _ _)
    · exact .inr ⟨b, off, rfl, Nat.lt_of_lt_of_le hb hs, fun i hi => (World.cell?_of_block (a := ⟨b, off + i, none⟩) (hk b e)).trans (hat i hi)⟩
theorem IsWrts.apart {w w' : World} {v : Value} {l : List Wrt} (h : IsWrts w v l) {g : Nat} {cs : Array Value} {t : TypeId} {fr : Nat × Nat} (hg : w.heap[g]? = some (.cells cs t fr)) (hno : ∀ (j : Nat) (s : ByteArray), cs[j]? ≠ some (Value.string s))
    (hs : w.heap.size ≤ w'.heap.size) (hk : ∀ b, b ≠ g → w'.heap[b]? = w.heap[b]?) : IsWrts w' v l := by
  obtain ⟨a, len, cap, rfl, hl, h1, h2, h3, hat⟩ := h
  refine ⟨a, len, cap, rfl, hl, h1, h2, h3, ?_⟩
  by_cases h0 : len = 0
  · exact .inl h0
  · obtain ⟨b, off, rfl, hb, hat⟩ := hat.resolve_left h0
    by_cases e : b = g
    · subst e
      have := (hat 0 (by omega)).2
      rw [cell_of_row _ _ _ _ _ _ hg] at this
      exact absurd this (hno _ _)
    · exact .inr ⟨b, off, rfl, Nat.lt_of_lt_of_le hb hs, fun i hi => ⟨(World.cell?_of_block (a := ⟨b, off + i * 2, none⟩) (hk b e)).trans (hat i hi).1, (World.cell?_of_block (a := ⟨b, off + i * 2 + 1, none⟩) (hk b e)).trans (hat i hi).2⟩⟩
theorem IsPower.apart {w w' : World} {v : Value} {d : Dsk} {left : Int} (h : IsPower w v d left) {g : Nat} {cs : Array Value} {t : TypeId} {fr : Nat × Nat} (hg : w.heap[g]? = some (.cells cs t fr)) (hno : ∀ (j : Nat) (s : ByteArray), cs[j]? ≠ some (Value.string s))
    (hs : w.heap.size ≤ w'.heap.size) (hk : ∀ b, b ≠ g → w'.heap[b]? = w.heap[b]?) : IsPower w' v d left := by
  obtain ⟨sv, pv, rfl, h1, h2⟩ := h
  exact ⟨sv, pv, rfl, h1.apart hg hno hs hk, h2.apart hg hno hs hk⟩
theorem no_text (a b : Option Addr) (n c n' c' : Nat) (x : Int) : ∀ (j : Nat) (s : ByteArray), (#[Value.slice a n c, .slice b n' c', .int .i64 x] : Array Value)[j]? ≠ some (Value.string s)
  | 0, _ => by simp
  | 1, _ => by simp
  | 2, _ => by simp
  | j + 3, _ => by simp
/-- three cells of a block of three are set -/
def set3 (w : World) (g : Nat) (x y z : Value) : World := ((w.setCell ⟨g, 0, none⟩ x).setCell ⟨g, 1, none⟩ y).setCell ⟨g, 2, none⟩ z
theorem set3_size (w : World) (g : Nat) (x y z : Value) : (set3 w g x y z).heap.size = w.heap.size := by simp [set3]
theorem set3_other (w : World) (g : Nat) (x y z : Value) (b : Nat) (h : b ≠ g) : (set3 w g x y z).heap[b]? = w.heap[b]? :=
  (Below.heap_setCell _ _ _ _ h).trans ((Below.heap_setCell _ _ _ _ h).trans (Below.heap_setCell _ _ _ _ h))
theorem set3_block {w : World} {g : Nat} {x0 y0 z0 : Value} {t : TypeId} (h : w.heap[g]? = some (.cells #[x0, y0, z0] t (0, 0))) (x y z : Value) : (set3 w g x y z).heap[g]? = some (.cells #[x, y, z] t (0, 0)) :=
  block_set (block_set (block_set h 0 x) 1 y) 2 z
theorem set3_below {a w : World} {B g : Nat} (h : Below B a w) (hg : B ≤ g) (x y z : Value) : Below B a (set3 w g x y z) :=
  ((h.setCell (p := ⟨g, 0, none⟩) hg _).setCell (p := ⟨g, 1, none⟩) hg _).setCell (p := ⟨g, 2, none⟩) hg _
end SDiskO
section SRep
open Go.RowKit
set_option linter.unusedVariables false

def rowT (n k : Nat) : List Value := List.replicate n (.bool true) ++ List.replicate (k - n) (.bool false)
theorem rowT_zero (k : Nat) : (falses k).map Value.bool = rowT 0 k := by simp [falses, rowT]
theorem rowT_len (n k : Nat) (h : n ≤ k) : (rowT n k).length = k := by simp [rowT]; omega
theorem rowT_splice (n c k : Nat) (h : n + c ≤ k) : splice (rowT n k) n (List.replicate c (Value.bool true)) = rowT (n + c) k := by
  have h1 : (rowT n k).take n = List.replicate n (.bool true) := by unfold rowT; rw [List.take_left' (by simp)]
  have h2 : (rowT n k).drop (n + c) = List.replicate (k - (n + c)) (.bool false) := by
    unfold rowT
    rw [List.drop_append]
    simp only [List.length_replicate, List.drop_replicate]
    rw [show n - (n + c) = 0 by omega, show k - n - (n + c - n) = k - (n + c) by omega]
    rfl
  unfold splice
  rw [h1, List.length_replicate, h2, ← List.append_assoc, List.replicate_append_replicate]
  rfl
theorem rowT_full (k : Nat) : rowT k k = (List.replicate k true).map Value.bool := by simp [rowT]
def copied (c : Nat) : List Value := List.replicate c (.bool true)
theorem copied_at (n c k : Nat) (h : c ≤ n) (h2 : n ≤ k) : ∀ (j : Nat) (u : Value), (copied c)[j]? = some u → (rowT n k)[j]? = some u := by
  intro j u hj
  unfold copied at hj
  rw [List.getElem?_replicate] at hj
  split at hj
  · cases hj
    unfold rowT
    rw [List.getElem?_append_left (by simp; omega), List.getElem?_replicate, if_pos (by omega)]
  · cases hj
theorem copied_len (c : Nat) : (copied c).length = c := by simp [copied]
theorem copied_one (c : Nat) : ∀ v ∈ copied c, v.oneCell' = true := fun v hv => by rw [List.eq_of_mem_replicate hv]; rfl
theorem copied_get (c : Nat) (j : Nat) (u : Value) (h : (copied c)[j]? = some u) : j < c ∧ u = .bool true := by
  unfold copied at h
  rw [List.getElem?_replicate] at h
  split at h
  · cases h; exact ⟨by assumption, rfl⟩
  · cases h
theorem rowT_step (n c k : Nat) (h : n + c ≤ k) : splice (rowT n k) n (copied c) = rowT (n + c) k := rowT_splice n c k h
set_option maxRecDepth 100000 in
set_option maxHeartbeats 500000 in
theorem repeat_any (k b : Nat) (w : World) (hb : w.heap[b]? = some (.cells #[.bool true] 4 (0, 0))) (hk : k ≤ 1000) :
    Calls Tryz.prog 100 #[.slice (some ⟨b, 0, none⟩) 1 1, .int .i64 k] w fun e w' => ∃ v', e = .returned v' ∧ IsBools w' v' (List.replicate k true) ∧ Below w.heap.size w w' := by
  have hkI : (k : Int) ≤ 1000 := by omega
  have hm := fun u => Tryz.bits_Mul 1 k (by omega) (by omega) u
  rw [show 1 * k / 18446744073709551616 = 0 by omega, show 1 * k % 18446744073709551616 = k by omega] at hm
  have hmk := make_bls k (by omega)
  rw [rowT_zero] at hmk
  have hm2 : ∀ u : World, Calls Tryz.prog 114 #[.int .u64 (1 : Nat), .int .u64 (k : Nat)] u fun e w' => e = .returned (.tuple #[.int .u64 (0 : Nat), .int .u64 (k : Nat)]) ∧ u = w' := fun u => (hm u).mono (fun e w' h => And.intro h.1 h.2.symm)
  have HM := Lib.hid hm2
  have hlt := (Array.getElem?_eq_some_iff.1 hb).1
  clear hm hm2
  go_enter Tryz.func100, Tryz.ntmps100
  have hbel := (Below.refl w.heap.size w).alloc (Nat.le_refl _) (.cells (rowT 0 k).toArray 4)
  have hg := heap_alloc_new w (.cells (rowT 0 k).toArray 4)
  have hb2 := (heap_alloc_old w (.cells (rowT 0 k).toArray 4) hlt).trans hb
  have HG := Lib.hid hg
  obtain ⟨c, hc⟩ : ∃ c, min 1 k = c := ⟨_, rfl⟩
  have HCc := Lib.hid hc
  clear hg hc
  have hn : (copied c).length = Nat.min 1 k := by rw [copied_len, ← HCc.out]
  have hpos : ∀ j v, (copied c)[j]? = some v → (w.alloc (.cells (rowT 0 k).toArray 4)).cell? ((⟨b, 0, none⟩ : Addr).add j) = some v := fun j v hj => by
    obtain ⟨h1, rfl⟩ := copied_get c j v hj
    have := HCc.out
    obtain rfl : j = 0 := by omega
    rw [addr_add, cell_of_row _ _ _ _ _ _ hb2]
    rfl
  have hfit : 0 + (copied c).length ≤ (rowT 0 k).length := by have := HCc.out; rw [copied_len, rowT_len 0 k (Nat.zero_le _)]; omega
  have HL := Lib.hid hn; have HP := Lib.hid hpos; have HF := Lib.hid hfit; have HB := Lib.hid hbel
  clear hn hpos hfit hbel hb2
  go_wp2_with (first | (go_at_call 114; refine (HM.out _).mono ?_; rintro e w' ⟨rfl, rfl⟩) | (with_reducible refine wpList_copy_splice rfl (.tmp 31) (.tmp 32) 52 52 rfl 4 Tryz.underlying52 (by kernel_rfl) _ _ _ _ _ _ rfl rfl w.heap.size 0 (rowT 0 k) 4 HG.out (copied c) HL.out (fun _ => ⟨rfl, _, rfl, HP.out⟩) HF.out (copied_one _) w.heap.size w HB.out (Nat.le_refl _) ?_))
  intro w2 hg2 hbel2
  have h2 : splice (rowT 0 k) 0 (copied c) = rowT c k := by
    have := HCc.out
    have h := rowT_step 0 c k (by omega)
    rwa [Nat.zero_add] at h
  rw [copied_len]
  rw [h2] at hg2
  have HG2 := Lib.hid hg2
  clear h2 hg2
  go_wp2_with fail
  go_loopw [8] (fun z wr => ∃ n : Nat, n ≤ k ∧ min 1 k ≤ n ∧ z = .int .i64 n ∧ wr.heap[w.heap.size]? = some (.cells (rowT n k).toArray 4 (0, 0)) ∧ Below w.heap.size w wr) (fun z _ => k - (intOf z).toNat)
  case atStart => exact ⟨c, by have := HCc.out; omega, by have := HCc.out; omega, rfl, HG2.out, hbel2⟩
  case round =>
    clear HG2 hbel2
    obtain ⟨n, hn, hn1, rfl, hgr, hbw⟩ := hrel
    by_cases hlt : n < k
    · have hltI : (n : Int) < k := by omega
      obtain ⟨e, he⟩ : ∃ e, min n (k - n) = e := ⟨_, rfl⟩
      have he1 : 1 ≤ e := by omega
      have hkn : ¬ k = n := by omega
      have hek : n + e ≤ k := by omega
      have hen : e ≤ n := by omega
      have hnI : (n : Int) ≤ 1000 := by omega
      have heI : (e : Int) ≤ 1000 := by omega
      have heq : (copied e).length = Nat.min n (k - n) := by rw [copied_len, ← he]
      have hpos : ∀ j v, (copied e)[j]? = some v → wr.drew.cell? ((⟨w.heap.size, 0, none⟩ : Addr).add j) = some v := fun j v hj => by
        have h := copied_at n e k hen hn j v hj
        rw [addr_add, Nat.zero_add, show wr.drew.cell? ⟨w.heap.size, j, none⟩ = wr.cell? ⟨w.heap.size, j, none⟩ from rfl, cell_of_row _ _ _ _ _ _ hgr]
        simpa using h
      have hfit : n + (copied e).length ≤ (rowT n k).length := by rw [copied_len, rowT_len n k hn]; exact hek
      have hst := rowT_step n e k hek
      have HL := Lib.hid heq; have HP := Lib.hid hpos; have HF := Lib.hid hfit; have HB := Lib.hid hbw.drew; have HGR := Lib.hid hgr; have HST := Lib.hid hst; have HE := Lib.hid he
      clear heq hpos hfit hbw hgr hst he
      have hbi : (Tryz.prog.info? 4).map (·.size) = some 1 := by kernel_rfl
      have HBI := Lib.hid hbi
      clear hbi
      go_wp2_with fail
      go_region_law (refine step_copy_splice (by rfl) (.tmp 41) (.tmp 44) 52 52 (by rfl) 4 Tryz.underlying52 HBI.out (some ⟨w.heap.size, n, none⟩) (some ⟨w.heap.size, 0, none⟩) (k - n) (k - n) n k (by simp [go_sem]) (by simp [go_sem]) w.heap.size n (rowT n k) 4 HGR.out (copied e) HL.out (fun _ => ⟨rfl, _, rfl, HP.out⟩) HF.out (copied_one _) w.heap.size w HB.out (Nat.le_refl _) ?_; rw [copied_len]; intro w4 hg4 hb4)
      have hg5 : w4.heap[w.heap.size]? = some (.cells (rowT (n + e) k).toArray 4 (0, 0)) := by have := hg4.out; rwa [HST.out] at this
      have HG5 := Lib.hid hg5
      clear hg4 hg5
      go_simp
      have hwr : IntKind.i64.wrap ((n : Int) + e) = ((n + e : Nat) : Int) := by
        rw [IntKind.wrap_i64]; omega
      rw [hwr]
      go_roundw
      case rel => exact ⟨_, _, _, _, _, _, _, _, _, _, _, _, _, _, ⟨n + e, hek, by omega, rfl, HG5.out, hb4⟩, rfl⟩
      case measure => simp [intOf]; omega
    · obtain rfl : n = k := by omega
      have hbk : IsBools wr (.slice (some ⟨w.heap.size, 0, none⟩) n n) (List.replicate n true) := by
        have h := hgr
        rw [rowT_full] at h
        have := block_reads1 h (by rw [List.length_replicate]; omega)
        rwa [List.length_replicate] at this
      have HBK := Lib.hid hbk
      clear hbk hgr
      go_wp2_with fail
      go_ret
      exact ⟨_, rfl, HBK.out, hbw⟩
end SRep
section SDiskFl
open Go.RowKit
set_option linter.unusedVariables false

theorem bools_form {w : World} {v : Value} {l : List Bool} (h : IsBools w v l) : ∃ a n c, v = .slice a n c ∧ IsBools w (.slice a n c) l := by
  have h2 := h
  obtain ⟨a, n, c, rfl, _⟩ := h
  exact ⟨a, n, c, rfl, h2⟩
def flushD (d : Dsk) : Dsk := crashD d (List.replicate d.pend.length true)
def nilDsk : Array Value := #[.slice none 0 0, .slice none 0 0]
theorem nilDsk_text (j : Nat) (s : ByteArray) : nilDsk[j]? ≠ some (Value.string s) := by
  match j with
  | 0 => simp [nilDsk]
  | 1 => simp [nilDsk]
  | j + 2 => simp [nilDsk]
theorem disk_set2 {w : World} {v : Value} {d : Dsk} (h : IsDisk w v d) {g : Nat} {t : TypeId} {fr : Nat × Nat} (hg : w.heap[g]? = some (.cells nilDsk t fr)) (x y : Value) : IsDisk ((w.setCell ⟨g, 0, none⟩ x).setCell ⟨g, 1, none⟩ y) v d := by
  obtain ⟨sv, pv, rfl, h1, h2⟩ := h
  have hk : ∀ b, b ≠ g → ((w.setCell ⟨g, 0, none⟩ x).setCell ⟨g, 1, none⟩ y).heap[b]? = w.heap[b]? := fun b h => (Below.heap_setCell _ _ _ _ h).trans (Below.heap_setCell _ _ _ _ h)
  exact ⟨sv, pv, rfl, h1.apart hg nilDsk_text (by simp) hk, h2.apart hg nilDsk_text (by simp) hk⟩
theorem set2_block {w : World} {g : Nat} {t : TypeId} (h : w.heap[g]? = some (.cells nilDsk t (0, 0))) (x y : Value) : ((w.setCell ⟨g, 0, none⟩ x).setCell ⟨g, 1, none⟩ y).heap[g]? = some (.cells #[x, y] t (0, 0)) :=
  block_set (block_set h 0 x) 1 y
theorem set2_below {a w : World} {B g : Nat} (h : Below B a w) (hg : B ≤ g) (x y : Value) : Below B a ((w.setCell ⟨g, 0, none⟩ x).setCell ⟨g, 1, none⟩ y) :=
  (h.setCell (p := ⟨g, 0, none⟩) hg _).setCell (p := ⟨g, 1, none⟩) hg _
theorem keepFl {w3 u : World} {g : Nat} {x y z : Value} {t : TypeId} {fr : Nat × Nat} (h : w3.heap[g]? = some (.cells #[x, y, z] t fr)) (hb : Below w3.heap.size w3 u) :
    Below w3.heap.size w3 u ∧ u.cell? ⟨g, 0, none⟩ = some x ∧ u.cell? ⟨g, 1, none⟩ = some y := ⟨hb, below_cell hb h 0 rfl, below_cell hb h 1 rfl⟩
theorem heap_new_old (w : World) (o o' : Obj) : ((w.alloc o).drew.alloc o').heap[w.heap.size]? = some o := (heap_alloc_old _ _ (by simp)).trans (heap_alloc_new w o)
theorem heap_new_two (w : World) (o o' : Obj) : ((w.alloc o).drew.alloc o').heap[w.heap.size + 1]? = some o' := by
  have := heap_alloc_new (w.alloc o).drew o'
  rwa [show (w.alloc o).drew.heap.size = w.heap.size + 1 from World.size_alloc _ _] at this
theorem keepFlA {w3 u : World} {R : Prop} (h : Below w3.heap.size w3 u ∧ R) (o : Obj) : Below w3.heap.size w3 (u.alloc o) := h.1.alloc h.1.size o
theorem keepFlC {w3 u u' : World} {R : Prop} (h : Below w3.heap.size w3 u ∧ R) (hb : Below u.heap.size u u') : Below w3.heap.size w3 u' := h.1.trans (hb.mono h.1.size)
set_option maxRecDepth 100000 in
set_option maxHeartbeats 1000000 in
theorem diskFlush_ok (v : Value) (d : Dsk) (left : Int) (w : World) (h : IsPower w v d left) (h0 : left ≠ 0) (hlo : -9223372036854775808 ≤ left) (hhi : left ≤ 9223372036854775807) (hr : rightD d = true)
    (hk4 : d.pend.length ≤ 1000) :
    Calls Tryz.prog 70 #[v] w fun e w' => ∃ v', e = .returned (.tuple #[v', .int .i64 0]) ∧ IsPower w' v' (flushD d) (spentI left) ∧ Below w.heap.size w w' := by
  have HRY := Lib.hid (fun u hu => diskReady_ok v d left u hu h0 hr)
  have hE : rightE d = 0 := by unfold rightE; rw [hr]; rfl
  obtain ⟨a, cap, a', cap', rfl, hd⟩ := h.form
  have hp := h
  have HC := Lib.hid (fun kv u hu hk => diskCrash_any (.agg #[.slice a d.secs.length cap, .slice a' d.pend.length cap']) kv d (List.replicate d.pend.length true) u hu hk)
  rw [hE] at HC
  have hfl : crashD d (List.replicate d.pend.length true) = flushD d := rfl
  rw [hfl] at HC
  have HD := Lib.hid hd; have HP := Lib.hid hp
  have HSP := Lib.hid (fun u => diskSpent_any left u hlo hhi)
  have hc1 : d.secs.length ≤ cap ∧ cap ≤ 9223372036854775807 ∧ d.pend.length ≤ cap' ∧ cap' ≤ 9223372036854775807 := by
    obtain ⟨_, _, e, ⟨_, _, _, e1, _, h1, h2, _⟩, ⟨_, _, _, e2, _, h3, h4, _⟩⟩ := hd
    injection e with e
    have f1 := congrArg (fun z : Array Value => z[0]?) e
    have f2 := congrArg (fun z : Array Value => z[1]?) e
    simp at f1 f2
    subst f1 f2
    injection e1 with _ g1 g2
    injection e2 with _ g3 g4
    omega
  generalize d.secs.length = m at *
  generalize d.pend.length = k at *
  have hkI : (k : Int) ≤ 1000 := by omega
  clear hd hp h hr h0 hE hfl
  go_enter Tryz.func70, Tryz.ntmps70
  go_wp2_with fail
  have hb2 : Below w.heap.size w ((w.alloc (.cells #[.slice a m cap, .slice a' k cap', .int .i64 left] 27)).alloc (.cells #[.slice none 0 0, .slice none 0 0, .int .i64 0] 27)) := ((Below.refl w.heap.size w).alloc (Nat.le_refl _) _).alloc (by simp) _
  have hA : ((w.alloc (.cells #[.slice a m cap, .slice a' k cap', .int .i64 left] 27)).alloc (.cells #[.slice none 0 0, .slice none 0 0, .int .i64 0] 27)).heap[w.heap.size]? = some (.cells #[.slice a m cap, .slice a' k cap', .int .i64 left] 27 (0, 0)) := (Below.heap_alloc _ _ _ (by simp)).trans (heap_alloc_new w _)
  have hB : ((w.alloc (.cells #[.slice a m cap, .slice a' k cap', .int .i64 left] 27)).alloc (.cells #[.slice none 0 0, .slice none 0 0, .int .i64 0] 27)).heap[w.heap.size + 1]? = some (.cells #[.slice none 0 0, .slice none 0 0, .int .i64 0] 27 (0, 0)) := by
    have := heap_alloc_new (w.alloc (.cells #[.slice a m cap, .slice a' k cap', .int .i64 left] 27)) (.cells #[.slice none 0 0, .slice none 0 0, .int .i64 0] 27)
    rwa [World.size_alloc] at this
  obtain ⟨w2, hW2⟩ : ∃ w2, ((w.alloc (.cells #[.slice a m cap, .slice a' k cap', .int .i64 left] 27)).alloc (.cells #[.slice none 0 0, .slice none 0 0, .int .i64 0] 27)) = w2 := ⟨_, rfl⟩
  rw [hW2] at hb2 hA hB ⊢
  clear hW2
  refine (HRY.out w2 (HP.out.below hb2)).mono ?_
  rintro e w3 ⟨rfl, hb3⟩
  have hA3 := (hb3.block _ (Array.getElem?_eq_some_iff.1 hA).1).trans hA
  have hB3 := (hb3.block _ (Array.getElem?_eq_some_iff.1 hB).1).trans hB
  have hw3 := hb2.trans (hb3.mono hb2.size)
  have x0 := below_cell (Below.refl _ w3) hA3 0 rfl
  have x1 := below_cell (Below.refl _ w3) hA3 1 rfl
  have x0' := fun o : Obj => (World.cell?_of_block (a := ⟨w.heap.size, 0, none⟩) (Below.heap_alloc w3 o w.heap.size (Array.getElem?_eq_some_iff.1 hA3).1)).trans x0
  have x1' := fun o : Obj => (World.cell?_of_block (a := ⟨w.heap.size, 1, none⟩) (Below.heap_alloc w3 o w.heap.size (Array.getElem?_eq_some_iff.1 hA3).1)).trans x1
  clear hb2 hA hB hb3 HRY
  go_upto_region 4 with fail
  go_cut [5] (fun pv wx => ∃ g p n pc p' n' pc', pv = .pointer (some ⟨g, 0, none⟩) ∧ wx.heap[g]? = some (.cells #[.slice p n pc, .slice p' n' pc'] 25 (0, 0)) ∧ w3.heap.size ≤ g ∧ IsDisk wx (.agg #[.slice p n pc, .slice p' n' pc']) (flushD d) ∧ Below w3.heap.size w3 wx)
  case first =>
    have HA3 := Lib.hid hA3; have HB3 := Lib.hid hB3; have HW3 := Lib.hid hw3
    have HDK := Lib.hid (fun u (R : Prop) (h : Below w3.heap.size w3 u ∧ R) => HD.out.below (hw3.trans (h.1.mono hw3.size)))
    clear hA3 hB3 hw3 x0 x1 x0' x1'
    go_region_held3 (fun u => Below w3.heap.size w3 u ∧ u.cell? ⟨w.heap.size, 0, none⟩ = some (.slice a m cap) ∧ u.cell? ⟨w.heap.size, 1, none⟩ = some (.slice a' k cap'))
      ((refine keepFl HA3.out ?_; first | assumption | exact Below.alloc (by assumption) (Below.size (by assumption)) _ | exact (Below.setCell (Below.setCell (by assumption) (by first | (simp; done) | (simp; omega) | (dsimp only; omega)) _) (by first | (simp; done) | (simp; omega) | (dsimp only; omega)) _) | exact (Below.refl _ _).drew | exact keepFlA (by assumption) _ | exact keepFlC (by assumption) (by assumption)))
      (first
      | (go_at_call 100; refine (repeat_any k _ _ ?_ hk4).mono ?_; (first | exact heap_alloc_new _ _ | exact heap_new_old _ _ _ | exact heap_new_two _ _ _); rintro e w4 ⟨kv, rfl, hbl, hb4⟩; obtain ⟨ka, kn, kc, rfl, hbl'⟩ := bools_form hbl; have hz4 := Below.size (keepFlC (by assumption) hb4); (first | have hT4 := (hb4.block _ (by first | (simp; done) | (simp; omega) | (dsimp only; omega))).trans (heap_new_two w3 (.cells #[.bool true] 4) (.cells #[.slice none 0 0, .slice none 0 0] 25)) | have hT4 := (hb4.block _ (by first | (simp; done) | (simp; omega) | (dsimp only; omega))).trans (heap_new_old w3 (.cells #[.slice none 0 0, .slice none 0 0] 25) (.cells #[.bool true] 4)) | skip))
      | (go_at_call 54; refine (HC.out _ _ (HDK.out _ _ (by assumption)) ?_).mono ?_; (first | exact hbl' | exact hbl'.below ((Below.refl _ _).alloc (Nat.le_refl _) _)); rintro e w5 ⟨dv, he5, hd5, hb5⟩; obtain ⟨p, pc, p', pc', rfl, _⟩ := hd5.form; subst he5; have hw5 := keepFlC (by assumption) hb5; (first | (have hT5 := (hb5.block _ (Array.getElem?_eq_some_iff.1 hT4).1).trans hT4; have t0 := below_cell (Below.refl _ w5) hT5 0 rfl; have t1 := below_cell (Below.refl _ w5) hT5 1 rfl; have tf0 := block_frozen hT5 0; have tf1 := block_frozen hT5 1) | (have hT5 := (hb5.block _ (by first | (simp; done) | (simp; omega) | (dsimp only; omega))).trans (heap_alloc_new w4 (.cells #[.slice none 0 0, .slice none 0 0] 25)); have t0 := below_cell (Below.refl _ w5) hT5 0 rfl; have t1 := below_cell (Below.refl _ w5) hT5 1 rfl; have tf0 := block_frozen hT5 0; have tf1 := block_frozen hT5 1) | skip)))
    all_goals
      go_wp2_with fail
      go_meet
    · exact ⟨_, _, _, _, _, _, _, rfl, heap_alloc_new w5 _, hw5.size, hd5.below ((Below.refl _ w5).alloc (Nat.le_refl _) _), hw5.alloc hw5.size _⟩
    · exact ⟨_, _, _, _, _, _, _, rfl, set2_block hT5 _ _, hz4, disk_set2 hd5 hT5 _ _, set2_below hw5 hz4 _ _⟩
    · exact ⟨_, _, _, _, _, _, _, rfl, set2_block hT5 _ _, by omega, disk_set2 hd5 hT5 _ _, set2_below hw5 (by omega) _ _⟩
    · exact ⟨_, _, _, _, _, _, _, rfl, set2_block hT5 _ _, by omega, disk_set2 hd5 hT5 _ _, set2_below hw5 (by omega) _ _⟩
  case rest =>
  obtain ⟨g, p, n, pc, p', n', pc', rfl, hT, hg, hd5, hw5⟩ := hcut
  have hA6 := (hw5.block _ (Array.getElem?_eq_some_iff.1 hA3).1).trans hA3
  have hB6 := (hw5.block _ (Array.getElem?_eq_some_iff.1 hB3).1).trans hB3
  have hlB := (Array.getElem?_eq_some_iff.1 hB3).1
  have hw6 := hw3.trans (hw5.mono hw3.size)
  have y0 := below_cell (Below.refl _ wc) hT 0 rfl
  have y1 := below_cell (Below.refl _ wc) hT 1 rfl
  have z2 := below_cell (Below.refl _ wc) hA6 2 rfl
  have e0 := below_cell (Below.refl _ wc) hB6 0 rfl
  have e1 := below_cell (Below.refl _ wc) hB6 1 rfl
  have e2 := below_cell (Below.refl _ wc) hB6 2 rfl
  have f0 := block_frozen hB6 0
  have f1 := block_frozen hB6 1
  have f2 := block_frozen hB6 2
  obtain ⟨sl, hsl⟩ : ∃ sl, spentI left = sl := ⟨_, rfl⟩
  rw [hsl] at HSP
  have HSL := Lib.hid hsl
  have hset := set3_block hB6 (.slice p n pc) (.slice p' n' pc') (.int .i64 sl)
  have hp6 : IsPower wc (.agg #[.slice p n pc, .slice p' n' pc', .int .i64 sl]) (flushD d) sl := power_of sl hd5
  have hp7 := hp6.apart hB6 (no_text _ _ _ _ _ _ _) (Nat.le_of_eq (set3_size wc (w.heap.size + 1) (.slice p n pc) (.slice p' n' pc') (.int .i64 sl)).symm) (set3_other wc (w.heap.size + 1) (.slice p n pc) (.slice p' n' pc') (.int .i64 sl))
  have hw7 := set3_below hw6 (show w.heap.size ≤ w.heap.size + 1 by omega) (.slice p n pc) (.slice p' n' pc') (.int .i64 sl)
  have HSET := Lib.hid hset; have HP7 := Lib.hid hp7; have HW7 := Lib.hid hw7
  clear hsl hset hp6 hp7 hw7 hA3 hB3 hw3 x0 x1 x0' x1' hw5 hd5 hT hA6 hB6 hlB hw6 HC HD HP hg
  unfold set3 at HSET HP7 HW7
  go_wp2_with fail
  go_region_with (go_at_call 99; refine (HSP.out _).mono ?_; rintro e w' ⟨rfl, rfl⟩)
  all_goals
    go_wp2_with fail
    refine bodyPost_ret (results_row_tmp rfl _ _ (w.heap.size + 1) _ _ _ _ rfl HSET.out Tryz.underlying27 rfl (by kernel_rfl)) rfl ⟨.agg #[.slice p n pc, .slice p' n' pc', .int .i64 sl], by first | (simp; rfl) | (simp [Act.put]; done), by rw [HSL.out]; exact HP7.out, HW7.out.drew⟩
end SDiskFl
section SDiskNo
open Go.RowKit
set_option linter.unusedVariables false

def readyE (d : Dsk) (left : Int) : Int := if left = 0 then 21 else if rightD d = true then 0 else 1
set_option maxRecDepth 100000 in
theorem diskReady_any (v : Value) (d : Dsk) (left : Int) (w : World) (h : IsPower w v d left) :
    Calls Tryz.prog 98 #[v] w fun e w' => e = .returned (.int .i64 (readyE d left)) ∧ Below w.heap.size w w' := by
  by_cases h0 : left = 0
  · subst h0
    rw [show readyE d 0 = 21 from rfl]
    obtain ⟨sv, pv, rfl, hs, hp⟩ := h
    have hd : IsDisk w (.agg #[sv, pv]) d := ⟨_, _, rfl, hs, hp⟩
    obtain ⟨a, cap, a', cap', hv, hc1, hc2, hc1', hc2'⟩ := hd.form
    injection hv with hv
    obtain rfl : sv = .slice a d.secs.length cap := by have := congrArg (fun z : Array Value => z[0]?) hv; simpa using this
    obtain rfl : pv = .slice a' d.pend.length cap' := by have := congrArg (fun z : Array Value => z[1]?) hv; simpa using this
    generalize d.secs.length = m at *
    generalize d.pend.length = k at *
    clear hs hp hd hv
    go_enter Tryz.func98, Tryz.ntmps98
    go_wp2_with fail
    go_ret
    exact ⟨rfl, (Below.refl w.heap.size w).alloc (Nat.le_refl _) _⟩
  · by_cases hr : rightD d = true
    · rw [show readyE d left = 0 by unfold readyE; rw [if_neg h0, if_pos hr]]
      exact diskReady_ok v d left w h h0 hr
    · rw [show readyE d left = 1 by unfold readyE; rw [if_neg h0, if_neg hr]]
      have hr : rightD d = false := by cases h : rightD d with | true => exact absurd h hr | false => rfl
      obtain ⟨sv, pv, rfl, hs, hp⟩ := h
      have hd : IsDisk w (.agg #[sv, pv]) d := ⟨_, _, rfl, hs, hp⟩
      obtain ⟨a, cap, a', cap', hv, hc1, hc2, hc1', hc2'⟩ := hd.form
      injection hv with hv
      obtain rfl : sv = .slice a d.secs.length cap := by have := congrArg (fun z : Array Value => z[0]?) hv; simpa using this
      obtain rfl : pv = .slice a' d.pend.length cap' := by have := congrArg (fun z : Array Value => z[1]?) hv; simpa using this
      have HR := Lib.hid (fun u hu => diskRight_any (.agg #[.slice a d.secs.length cap, .slice a' d.pend.length cap']) d u hu)
      rw [hr] at HR
      have HD := Lib.hid hd
      generalize d.secs.length = m at *
      generalize d.pend.length = k at *
      clear hs hp hd hv hr
      go_enter Tryz.func98, Tryz.ntmps98
      go_wp2_with fail
      have hb1 := (Below.refl w.heap.size w).alloc (Nat.le_refl _) (.cells #[.slice a m cap, .slice a' k cap', .int .i64 left] 27)
      refine (HR.out _ (HD.out.below hb1)).mono ?_
      rintro e w2 ⟨rfl, hb2⟩
      have hw2 := hb1.trans (hb2.mono hb1.size)
      clear hb1 hb2
      go_wp2_with fail
      go_ret
      exact ⟨rfl, hw2⟩
set_option maxRecDepth 100000 in
set_option maxHeartbeats 1000000 in
theorem diskFlush_no (v : Value) (d : Dsk) (left : Int) (w : World) (h : IsPower w v d left) (h0 : readyE d left ≠ 0) :
    Calls Tryz.prog 70 #[v] w fun e w' => e = .returned (.tuple #[v, .int .i64 (readyE d left)]) ∧ Below w.heap.size w w' := by
  have HRY := Lib.hid (fun u hu => diskReady_any v d left u hu)
  obtain ⟨a, cap, a', cap', rfl, hd⟩ := h.form
  have HP := Lib.hid h
  generalize readyE d left = c at *
  generalize d.secs.length = m at *
  generalize d.pend.length = k at *
  have h0' : (c == 0) = false := by rw [beq_eq_false_iff_ne]; exact h0
  clear h hd
  go_enter Tryz.func70, Tryz.ntmps70
  go_wp2_with fail
  have hb2 : Below w.heap.size w ((w.alloc (.cells #[.slice a m cap, .slice a' k cap', .int .i64 left] 27)).alloc (.cells #[.slice none 0 0, .slice none 0 0, .int .i64 0] 27)) := ((Below.refl w.heap.size w).alloc (Nat.le_refl _) _).alloc (by simp) _
  have hA : ((w.alloc (.cells #[.slice a m cap, .slice a' k cap', .int .i64 left] 27)).alloc (.cells #[.slice none 0 0, .slice none 0 0, .int .i64 0] 27)).heap[w.heap.size]? = some (.cells #[.slice a m cap, .slice a' k cap', .int .i64 left] 27 (0, 0)) := (Below.heap_alloc _ _ _ (by simp)).trans (heap_alloc_new w _)
  have hB : ((w.alloc (.cells #[.slice a m cap, .slice a' k cap', .int .i64 left] 27)).alloc (.cells #[.slice none 0 0, .slice none 0 0, .int .i64 0] 27)).heap[w.heap.size + 1]? = some (.cells #[.slice none 0 0, .slice none 0 0, .int .i64 0] 27 (0, 0)) := by
    have := heap_alloc_new (w.alloc (.cells #[.slice a m cap, .slice a' k cap', .int .i64 left] 27)) (.cells #[.slice none 0 0, .slice none 0 0, .int .i64 0] 27)
    rwa [World.size_alloc] at this
  obtain ⟨w2, hW2⟩ : ∃ w2, ((w.alloc (.cells #[.slice a m cap, .slice a' k cap', .int .i64 left] 27)).alloc (.cells #[.slice none 0 0, .slice none 0 0, .int .i64 0] 27)) = w2 := ⟨_, rfl⟩
  rw [hW2] at hb2 hA hB ⊢
  clear hW2
  refine (HRY.out w2 (HP.out.below hb2)).mono ?_
  rintro e w3 ⟨rfl, hb3⟩
  have hA3 := (hb3.block _ (Array.getElem?_eq_some_iff.1 hA).1).trans hA
  have hB3 := (hb3.block _ (Array.getElem?_eq_some_iff.1 hB).1).trans hB
  have hw3 := hb2.trans (hb3.mono hb2.size)
  have x0 := below_cell (Below.refl _ w3) hA3 0 rfl
  have x1 := below_cell (Below.refl _ w3) hA3 1 rfl
  have x2 := below_cell (Below.refl _ w3) hA3 2 rfl
  have e0 := below_cell (Below.refl _ w3) hB3 0 rfl
  have e1 := below_cell (Below.refl _ w3) hB3 1 rfl
  have e2 := below_cell (Below.refl _ w3) hB3 2 rfl
  have f0 := block_frozen hB3 0
  have f1 := block_frozen hB3 1
  have f2 := block_frozen hB3 2
  have hset := set3_block hB3 (.slice a m cap) (.slice a' k cap') (.int .i64 left)
  have hw7 := set3_below hw3 (show w.heap.size ≤ w.heap.size + 1 by omega) (.slice a m cap) (.slice a' k cap') (.int .i64 left)
  have HSET := Lib.hid hset; have HW7 := Lib.hid hw7
  clear hb2 hA hB hb3 HRY hset hw7 hA3 hB3 hw3 HP
  unfold set3 at HSET HW7
  go_wp2_with fail
  refine bodyPost_ret (results_row_tmp rfl _ _ (w.heap.size + 1) _ _ _ _ rfl HSET.out Tryz.underlying27 rfl (by kernel_rfl)) rfl ⟨by first | (simp; rfl) | (simp; done), HW7.out⟩
set_option maxRecDepth 100000 in
set_option maxHeartbeats 1000000 in
theorem diskWrite_no (v : Value) (d : Dsk) (left s c : Int) (x : ByteArray) (w : World) (h : IsPower w v d left) (hxs : x.size ≤ 9223372036854775807)
    (hc : (readyE d left ≠ 0 ∧ c = readyE d left) ∨ (readyE d left = 0 ∧ ¬ (0 ≤ s ∧ s < d.secs.length) ∧ c = 20) ∨ (readyE d left = 0 ∧ (0 ≤ s ∧ s < d.secs.length) ∧ 512 < (trimS x).size ∧ c = 2)) :
    Calls Tryz.prog 69 #[v, .int .i64 s, .string x] w fun e w' => e = .returned (.tuple #[v, .int .i64 c]) ∧ Below w.heap.size w w' := by
  have HRY := Lib.hid (fun u hu => diskReady_any v d left u hu)
  obtain ⟨a, cap, a', cap', rfl, hd⟩ := h.form
  have HH := Lib.hid (fun u hu => diskHas_any (.agg #[.slice a d.secs.length cap, .slice a' d.pend.length cap']) d s u hu)
  have HT := Lib.hid (fun u => leTrim_any x u hxs)
  have HP := Lib.hid h; have HD := Lib.hid hd
  have hxs2 : (trimS x).size ≤ 9223372036854775807 := Nat.le_trans (trimS_le x) hxs
  generalize readyE d left = r at *
  generalize d.secs.length = m at *
  generalize d.pend.length = k at *
  generalize trimS x = X at *
  have hxI : (X.size : Int) ≤ 9223372036854775807 := by omega
  clear h hd hxs2
  go_enter Tryz.func69, Tryz.ntmps69
  go_wp2_with fail
  have hb2 : Below w.heap.size w ((w.alloc (.cells #[.slice a m cap, .slice a' k cap', .int .i64 left] 27)).alloc (.cells #[.slice none 0 0, .slice none 0 0, .int .i64 0] 27)) := ((Below.refl w.heap.size w).alloc (Nat.le_refl _) _).alloc (by simp) _
  have hA : ((w.alloc (.cells #[.slice a m cap, .slice a' k cap', .int .i64 left] 27)).alloc (.cells #[.slice none 0 0, .slice none 0 0, .int .i64 0] 27)).heap[w.heap.size]? = some (.cells #[.slice a m cap, .slice a' k cap', .int .i64 left] 27 (0, 0)) := (Below.heap_alloc _ _ _ (by simp)).trans (heap_alloc_new w _)
  have hB : ((w.alloc (.cells #[.slice a m cap, .slice a' k cap', .int .i64 left] 27)).alloc (.cells #[.slice none 0 0, .slice none 0 0, .int .i64 0] 27)).heap[w.heap.size + 1]? = some (.cells #[.slice none 0 0, .slice none 0 0, .int .i64 0] 27 (0, 0)) := by
    have := heap_alloc_new (w.alloc (.cells #[.slice a m cap, .slice a' k cap', .int .i64 left] 27)) (.cells #[.slice none 0 0, .slice none 0 0, .int .i64 0] 27)
    rwa [World.size_alloc] at this
  obtain ⟨w2, hW2⟩ : ∃ w2, ((w.alloc (.cells #[.slice a m cap, .slice a' k cap', .int .i64 left] 27)).alloc (.cells #[.slice none 0 0, .slice none 0 0, .int .i64 0] 27)) = w2 := ⟨_, rfl⟩
  rw [hW2] at hb2 hA hB ⊢
  clear hW2
  refine (HRY.out w2 (HP.out.below hb2)).mono ?_
  rintro e w3 ⟨rfl, hb3⟩
  have hA3 := (hb3.block _ (Array.getElem?_eq_some_iff.1 hA).1).trans hA
  have hB3 := (hb3.block _ (Array.getElem?_eq_some_iff.1 hB).1).trans hB
  have hw3 := hb2.trans (hb3.mono hb2.size)
  clear hb2 hA hB hb3 HRY
  by_cases hr : r = 0
  · subst hr
    have hc' : (¬ (0 ≤ s ∧ s < m) ∧ c = 20) ∨ ((0 ≤ s ∧ s < m) ∧ 512 < X.size ∧ c = 2) := by
      rcases hc with h | h | h
      · exact absurd rfl h.1
      · exact .inl h.2
      · exact .inr h.2
    clear hc
    have x0 := below_cell (Below.refl _ w3) hA3 0 rfl
    have x1 := below_cell (Below.refl _ w3) hA3 1 rfl
    go_wp2_with fail
    refine (HH.out w3 (HD.out.below hw3)).mono ?_
    rintro e w4 ⟨rfl, hb4⟩
    have hA4 := (hb4.block _ (Array.getElem?_eq_some_iff.1 hA3).1).trans hA3
    have hB4 := (hb4.block _ (Array.getElem?_eq_some_iff.1 hB3).1).trans hB3
    have hw4 := hw3.trans (hb4.mono hw3.size)
    clear x0 x1 HH hA3 hB3 hw3 hb4
    rcases hc' with ⟨hn, rfl⟩ | ⟨hn, hX, rfl⟩
    · rw [decide_eq_false hn]
      clear hn HT
      have x0 := below_cell (Below.refl _ w4) hA4 0 rfl
      have x1 := below_cell (Below.refl _ w4) hA4 1 rfl
      have x2 := below_cell (Below.refl _ w4) hA4 2 rfl
      have e0 := below_cell (Below.refl _ w4) hB4 0 rfl
      have e1 := below_cell (Below.refl _ w4) hB4 1 rfl
      have e2 := below_cell (Below.refl _ w4) hB4 2 rfl
      have f0 := block_frozen hB4 0
      have f1 := block_frozen hB4 1
      have f2 := block_frozen hB4 2
      have hset := set3_block hB4 (.slice a m cap) (.slice a' k cap') (.int .i64 left)
      have hw7 := set3_below hw4 (show w.heap.size ≤ w.heap.size + 1 by omega) (.slice a m cap) (.slice a' k cap') (.int .i64 left)
      have HSET := Lib.hid hset; have HW7 := Lib.hid hw7
      clear hset hw7 hA4 hB4 hw4
      unfold set3 at HSET HW7
      go_wp2_with fail
      refine bodyPost_ret (results_row_tmp rfl _ _ (w.heap.size + 1) _ _ _ _ rfl HSET.out Tryz.underlying27 rfl (by kernel_rfl)) rfl ⟨by first | (simp; rfl) | (simp; done), HW7.out⟩
    · rw [decide_eq_true hn]
      have hXI : (512 : Int) < X.size := by omega
      clear hn
      go_wp2_with fail
      refine (HT.out w4).mono ?_
      rintro e w5 ⟨rfl, rfl⟩
      clear HT
      have x0 := below_cell (Below.refl _ w4) hA4 0 rfl
      have x1 := below_cell (Below.refl _ w4) hA4 1 rfl
      have x2 := below_cell (Below.refl _ w4) hA4 2 rfl
      have e0 := below_cell (Below.refl _ w4) hB4 0 rfl
      have e1 := below_cell (Below.refl _ w4) hB4 1 rfl
      have e2 := below_cell (Below.refl _ w4) hB4 2 rfl
      have f0 := block_frozen hB4 0
      have f1 := block_frozen hB4 1
      have f2 := block_frozen hB4 2
      have hset := set3_block hB4 (.slice a m cap) (.slice a' k cap') (.int .i64 left)
      have hw7 := set3_below hw4 (show w.heap.size ≤ w.heap.size + 1 by omega) (.slice a m cap) (.slice a' k cap') (.int .i64 left)
      have HSET := Lib.hid hset; have HW7 := Lib.hid hw7
      clear hset hw7 hA4 hB4 hw4
      unfold set3 at HSET HW7
      go_wp2_with fail
      refine bodyPost_ret (results_row_tmp rfl _ _ (w.heap.size + 1) _ _ _ _ rfl HSET.out Tryz.underlying27 rfl (by kernel_rfl)) rfl ⟨by first | (simp; rfl) | (simp; done), HW7.out⟩
  · have hc' : c = r := by
      rcases hc with h | h | h
      · exact h.2
      · exact absurd h.1 hr
      · exact absurd h.1 hr
    subst hc'
    have hr' : (c == 0) = false := by rw [beq_eq_false_iff_ne]; exact hr
    clear hc HH HT HP HD hr
    have x0 := below_cell (Below.refl _ w3) hA3 0 rfl
    have x1 := below_cell (Below.refl _ w3) hA3 1 rfl
    have x2 := below_cell (Below.refl _ w3) hA3 2 rfl
    have e0 := below_cell (Below.refl _ w3) hB3 0 rfl
    have e1 := below_cell (Below.refl _ w3) hB3 1 rfl
    have e2 := below_cell (Below.refl _ w3) hB3 2 rfl
    have f0 := block_frozen hB3 0
    have f1 := block_frozen hB3 1
    have f2 := block_frozen hB3 2
    have hset := set3_block hB3 (.slice a m cap) (.slice a' k cap') (.int .i64 left)
    have hw7 := set3_below hw3 (show w.heap.size ≤ w.heap.size + 1 by omega) (.slice a m cap) (.slice a' k cap') (.int .i64 left)
    have HSET := Lib.hid hset; have HW7 := Lib.hid hw7
    clear hset hw7 hA3 hB3 hw3
    unfold set3 at HSET HW7
    go_wp2_with fail
    refine bodyPost_ret (results_row_tmp rfl _ _ (w.heap.size + 1) _ _ _ _ rfl HSET.out Tryz.underlying27 rfl (by kernel_rfl)) rfl ⟨by first | (simp; rfl) | (simp; done), HW7.out⟩
end SDiskNo
section SRef03R
open Go.RowKit
set_option linter.unusedVariables false

set_option maxHeartbeats 1000000 in
set_option maxRecDepth 100000 in
theorem refDiskRight_any (v : Value) (d : Dsk) (w : World) (h : IsDisk w v d) :
    Calls Tryz.prog 46 #[v] w fun e w' => e = .returned (.bool (rightD d)) ∧ Below w.heap.size w w' := by
  have hd := h
  obtain ⟨sv, pv, rfl, hs, hp⟩ := h
  have hb := (Below.refl w.heap.size w).alloc (Nat.le_refl _) (.cells #[sv, pv] 25)
  have hS := hs.below hb
  have hP := hp.below hb
  have hcz := heap_alloc_new w (.cells #[sv, pv] 25)
  have hD := hd.below hb
  clear hs hp hd
  obtain ⟨a, len, cap, rfl, hlen, hc1, hc2, hbs, hat⟩ := hS
  obtain ⟨a', len', cap', rfl, hlen', hc1', hc2', hbp, hat'⟩ := hP
  have hlI : (len : Int) ≤ 9223372036854775807 := by omega
  have hlI' : (len' : Int) ≤ 9223372036854775807 := by omega
  by_cases hn : 1 ≤ len ∧ len ≤ 256
  · have hn1 : (1 : Int) ≤ len := by omega
    have hn2 : (len : Int) ≤ 256 := by omega
    have HA := Lib.hid hat; have HA' := Lib.hid hat'; have HBS := Lib.hid hbs; have HBP := Lib.hid hbp; have HB := Lib.hid hb; have HD := Lib.hid hD
    clear hat hat' hbs hbp hb hD
    go_enter Tryz.func46, Tryz.ntmps46
    go_wp2_with fail
    generalize w.alloc (.cells #[.slice a len cap, .slice a' len' cap'] 25) = W1 at *
    have hz0 : W1.cell? ⟨w.heap.size, 0, none⟩ = some (.slice a len cap) := by rw [cell_of_row _ _ 0 _ _ _ hcz]; rfl
    have hz1 : W1.cell? ⟨w.heap.size, 1, none⟩ = some (.slice a' len' cap') := by rw [cell_of_row _ _ 1 _ _ _ hcz]; rfl
    have hzlt := (Array.getElem?_eq_some_iff.1 hcz).1
    clear hcz
    go_loop [20] (fun z => ∃ k : Nat, k ≤ len ∧ z = .int .i64 k ∧ (d.secs.take k).all fitsB = true) (fun z => len - (intOf z).toNat)
    case atStart => exact ⟨0, by omega, rfl, rfl⟩
    case round =>
      obtain ⟨k, hk, rfl, hall⟩ := hrel
      by_cases hlt : k < len
      · have hkI : (k : Int) < len := by omega
        have hkl : k < d.secs.length := by omega
        obtain ⟨b, off, rfl, hb, hat⟩ := HA.out.resolve_left (by omega)
        have hc := hat k hlt
        rw [show d.secs.getD k ByteArray.empty = d.secs[k] from by simp [List.getD, hkl]] at hc
        have HF := Lib.hid (fun u => refStands_any d.secs[k] u (HBS.out _ (List.getElem_mem hkl)))
        have hsn : (d.secs.take (k + 1)).all fitsB = fitsB d.secs[k] := by
          rw [← List.take_append_getElem hkl, List.all_append, hall]; simp
        have HSN := Lib.hid hsn
        have hno : fitsB d.secs[k] = false → rightD d = false := fun h => by
          have : d.secs.all fitsB = false := by
            rw [Bool.eq_false_iff]
            intro h2
            rw [List.all_eq_true.1 h2 _ (List.getElem_mem hkl)] at h
            cases h
          unfold rightD; rw [this]; simp
        have HNO := Lib.hid hno
        clear hat hsn hno hall
        generalize d.secs[k] = S at *
        cases hB : fitsB S
        · rw [hB] at HF HNO
          have HNX := Lib.hid (HNO.out rfl)
          clear HNO HSN hB
          go_wp2_with (first | (go_at_call 53; refine (HF.out _).mono ?_; rintro e w' ⟨rfl, rfl⟩))
          go_ret
          exact ⟨by rw [HNX.out]; rfl, HB.out⟩
        · rw [hB] at HF HSN
          clear HNO hB
          go_wp2_with (first | (go_at_call 53; refine (HF.out _).mono ?_; rintro e w' ⟨rfl, rfl⟩))
          go_round
          case rel => exact ⟨k + 1, by omega, by go_num, HSN.out⟩
          case measure => simp [intOf]; omega
      · obtain rfl : k = len := by omega
        have hallS : d.secs.all fitsB = true := by rw [List.take_of_length_le (by omega)] at hall; exact hall
        have HAS := Lib.hid hallS
        clear hall hallS hlt
        go_wp2_with fail
        go_loopw [31] (fun z wr => ∃ k : Nat, k ≤ len' ∧ z = .int .i64 k ∧ (d.pend.take k).all (Wrt.fits d.secs.length) = true ∧ Below W1.heap.size W1 wr) (fun z _ => len' - (intOf z).toNat)
        case atStart => exact ⟨0, by omega, rfl, rfl, Below.refl _ _⟩
        case round =>
          obtain ⟨j, hj, rfl, hall, hbel⟩ := hrel
          have hy0 := (hbel.cell (p := ⟨w.heap.size, 0, none⟩) hzlt).trans hz0
          have hy1 := (hbel.cell (p := ⟨w.heap.size, 1, none⟩) hzlt).trans hz1
          have hwr : w.heap.size < wr.heap.size := Nat.lt_of_lt_of_le hzlt hbel.size
          have hq0 := fun o : Obj => (World.cell?_of_block (a := ⟨w.heap.size, 0, none⟩) (Below.heap_alloc wr o w.heap.size hwr)).trans hy0
          have hq1 := fun o : Obj => (World.cell?_of_block (a := ⟨w.heap.size, 1, none⟩) (Below.heap_alloc wr o w.heap.size hwr)).trans hy1
          by_cases hlt : j < len'
          · have hjI : (j : Int) < len' := by omega
            have hjl : j < d.pend.length := by omega
            obtain ⟨b', off', rfl, hb', hat'⟩ := HA'.out.resolve_left (by omega)
            have hw := (hat' j hlt).below hbel hb'
            rw [show d.pend.getD j wrtZ = d.pend[j] from by simp [List.getD, hjl]] at hw
            obtain ⟨hw0, hw1⟩ := hw
            obtain ⟨⟨bs1, bs2⟩, bs3⟩ := HBP.out _ (List.getElem_mem hjl)
            have HF := Lib.hid (fun u => refStands_any d.pend[j].bytes u bs3)
            have hsn : (d.pend.take (j + 1)).all (Wrt.fits d.secs.length) = Wrt.fits d.secs.length d.pend[j] := by
              rw [← List.take_append_getElem hjl, List.all_append, hall]; simp
            have HSN := Lib.hid hsn
            have hno : Wrt.fits d.secs.length d.pend[j] = false → rightD d = false := fun h => by
              have : d.pend.all (Wrt.fits d.secs.length) = false := by
                rw [Bool.eq_false_iff]
                intro h2
                rw [List.all_eq_true.1 h2 _ (List.getElem_mem hjl)] at h
                cases h
              unfold rightD; rw [this]; simp
            have HNO := Lib.hid hno
            clear hat' hsn hno hall
            generalize d.pend[j] = X at *
            obtain ⟨xs, xb⟩ := X
            simp only at hw0 hw1 bs1 bs2 bs3 HF HSN HNO
            have hb4 : Below W1.heap.size W1 (wr.alloc (.cells #[.int .i64 xs, .string xb] 46)) := hbel.alloc hbel.size _
            by_cases h0 : 0 ≤ xs
            · by_cases h1 : xs < k
              · have hdec : decide (0 ≤ xs ∧ xs < (d.secs.length : Int)) = true := decide_eq_true ⟨h0, by rw [hlen]; exact h1⟩
                have hfit : Wrt.fits d.secs.length ⟨xs, xb⟩ = fitsB xb := by unfold Wrt.fits; rw [hdec]; rfl
                rw [hfit] at HSN HNO
                clear hfit hdec
                cases hB : fitsB xb
                · rw [hB] at HF HNO
                  have HNX := Lib.hid (HNO.out rfl)
                  clear HNO HSN hB
                  go_wp2_with (first | (go_at_call 53; refine (HF.out _).mono ?_; rintro e w' ⟨rfl, rfl⟩))
                  go_ret
                  exact ⟨by rw [HNX.out]; rfl, HB.out.trans (hb4.mono HB.out.size)⟩
                · rw [hB] at HF HSN
                  clear HNO hB
                  go_wp2_with (first | (go_at_call 53; refine (HF.out _).mono ?_; rintro e w' ⟨rfl, rfl⟩))
                  go_roundw
                  case rel => exact ⟨j + 1, by omega, by go_num, HSN.out, hb4⟩
                  case measure => simp [intOf]; omega
              · have hfit : Wrt.fits d.secs.length ⟨xs, xb⟩ = false := by unfold Wrt.fits; rw [decide_eq_false (fun h => h1 (by have := h.2; rw [hlen] at this; exact this))]; rfl
                rw [hfit] at HNO
                have h1I : (k : Int) ≤ xs := by omega
                have HNX := Lib.hid (HNO.out rfl)
                clear hfit HNO HSN h1
                go_wp2_with fail
                go_ret
                exact ⟨by rw [HNX.out]; rfl, HB.out.trans (hb4.mono HB.out.size)⟩
            · have hfit : Wrt.fits d.secs.length ⟨xs, xb⟩ = false := by unfold Wrt.fits; rw [decide_eq_false (fun h => h0 h.1)]; rfl
              rw [hfit] at HNO
              have h0I : xs < 0 := by omega
              have HNX := Lib.hid (HNO.out rfl)
              clear hfit HNO HSN h0
              go_wp2_with fail
              go_ret
              exact ⟨by rw [HNX.out]; rfl, HB.out.trans (hb4.mono HB.out.size)⟩
          · obtain rfl : j = len' := by omega
            have hR : rightD d = true := by
              rw [List.take_of_length_le (by omega)] at hall
              unfold rightD
              rw [HAS.out, hall, hlen, decide_eq_true hn]; rfl
            have HR := Lib.hid hR
            clear hall hR hlt
            go_wp2_with fail
            go_ret
            exact ⟨by rw [HR.out]; rfl, HB.out.trans (hbel.mono HB.out.size)⟩
  · have hF : rightD d = false := by unfold rightD; rw [hlen, decide_eq_false hn]; rfl
    rw [hF]
    by_cases h0 : len < 1
    · have h0I : (len : Int) < 1 := by omega
      clear hn hF hat hat' h0
      go_enter Tryz.func46, Tryz.ntmps46
      go_wp2_with fail
      go_ret
      exact ⟨rfl, hb⟩
    · have h0I : (1 : Int) ≤ len := by omega
      have h1I : (256 : Int) < len := by omega
      clear hn hF hat hat' h0
      go_enter Tryz.func46, Tryz.ntmps46
      go_wp2_with fail
      go_ret
      exact ⟨rfl, hb⟩
end SRef03R
section SRef03W
open Go.RowKit
set_option linter.unusedVariables false

set_option maxRecDepth 100000 in
set_option maxHeartbeats 1000000 in
theorem refLikeWrites_any (va vb : Value) (la lb : List Wrt) (w : World) (ha : IsWrts w va la) (hb : IsWrts w vb lb) :
    Calls Tryz.prog 41 #[va, vb] w fun e w' => e = .returned (.bool (decide (la = lb))) ∧ Below w.heap.size w w' := by
  obtain ⟨a, len, cap, rfl, hlen, hc1, hc2, hba, hat⟩ := ha
  obtain ⟨a', len', cap', rfl, hlen', hc1', hc2', hbb, hat'⟩ := hb
  have hlI : (len : Int) ≤ 9223372036854775807 := by omega
  have hlI' : (len' : Int) ≤ 9223372036854775807 := by omega
  have HA := Lib.hid hat; have HA' := Lib.hid hat'
  clear hat hat' hba hbb
  by_cases hll : len = len'
  · subst hll
    go_enter Tryz.func41, Tryz.ntmps41
    go_wp2_with fail
    go_loopw [13] (fun z wr => ∃ k : Nat, k ≤ len ∧ z = .int .i64 k ∧ la.take k = lb.take k ∧ Below w.heap.size w wr) (fun z _ => len - (intOf z).toNat)
    case atStart => exact ⟨0, by omega, rfl, rfl, Below.refl _ _⟩
    case round =>
      obtain ⟨k, hk, rfl, hpre, hbel⟩ := hrel
      by_cases hlt : k < len
      · have hkI : (k : Int) < len := by omega
        obtain ⟨b, off, rfl, hb, hat⟩ := HA.out.resolve_left (by omega)
        obtain ⟨b', off', rfl, hb', hat'⟩ := HA'.out.resolve_left (by omega)
        obtain ⟨x0, x1⟩ := (hat k hlt).below hbel hb
        obtain ⟨y0, y1⟩ := (hat' k hlt).below hbel hb'
        have hka : k < la.length := by omega
        have hkb : k < lb.length := by omega
        have ea : la.getD k wrtZ = la[k] := by simp [List.getD, hka]
        have eb : lb.getD k wrtZ = lb[k] := by simp [List.getD, hkb]
        rw [ea] at x0 x1
        rw [eb] at y0 y1
        have hsn : la[k] = lb[k] → la.take (k + 1) = lb.take (k + 1) := fun h => by
          rw [← List.take_append_getElem hka, ← List.take_append_getElem hkb, hpre, h]
        have hno : la[k] ≠ lb[k] → decide (la = lb) = false := fun h => decide_eq_false (fun e => h (by subst e; rfl))
        have HSN := Lib.hid hsn; have HNO := Lib.hid hno
        clear hat hat' ea eb hsn hno hpre
        generalize la[k] = X at *
        generalize lb[k] = Y at *
        obtain ⟨s, t⟩ := X
        obtain ⟨s', t'⟩ := Y
        simp only at x0 x1 y0 y1
        have hbd := hbel.drew
        by_cases h1 : s = s'
        · subst h1
          by_cases h2 : t = t'
          · subst h2
            have HS2 := Lib.hid (HSN.out rfl)
            clear HSN HNO
            go_wp2_with fail
            go_quiet (fail)
            go_wp2_with fail
            go_roundw
            case rel => exact ⟨k + 1, by omega, by go_num, HS2.out, by first | exact hbel | exact belowN hbel _⟩
            case measure => simp [intOf]; omega
          · have hd := HNO.out (fun e => h2 (Wrt.mk.inj e).2)
            have hne := ba_tne h2
            have HD := Lib.hid hd
            clear hd HSN HNO h2
            go_wp2_with fail
            go_quiet (fail)
            go_wp2_with fail
            go_ret
            exact ⟨by rw [HD.out]; rfl, by first | exact hbel | exact belowN hbel _⟩
        · have hd := HNO.out (fun e => h1 (Wrt.mk.inj e).1)
          have HD := Lib.hid hd
          clear hd HSN HNO
          go_wp2_with fail
          go_quiet (fail)
          go_wp2_with fail
          go_ret
          exact ⟨by rw [HD.out]; rfl, by first | exact hbel | exact belowN hbel _⟩
      · obtain rfl : k = len := by omega
        have hd : decide (la = lb) = true := decide_eq_true (by rwa [List.take_of_length_le (by omega), List.take_of_length_le (by omega)] at hpre)
        have HD := Lib.hid hd
        clear hd hpre hlt
        go_wp2_with fail
        go_ret
        exact ⟨by rw [HD.out]; rfl, hbel⟩
  · have hF : decide (la = lb) = false := decide_eq_false (fun e => hll (by rw [← hlen, ← hlen', e]))
    rw [hF]
    have hne : (len : Int) ≠ len' := by omega
    clear hF hll
    go_enter Tryz.func41, Tryz.ntmps41
    go_wp2_with fail
    go_ret
    exact ⟨rfl, Below.refl _ _⟩
end SRef03W
section SRef03L
open Go.RowKit
set_option linter.unusedVariables false

set_option maxRecDepth 100000 in
set_option maxHeartbeats 1000000 in
theorem refLike_any (va vb : Value) (x y : Dsk) (w : World) (ha : IsDisk w va x) (hb : IsDisk w vb y) :
    Calls Tryz.prog 72 #[va, vb] w fun e w' => e = .returned (.bool (decide (x = y))) ∧ Below w.heap.size w w' := by
  obtain ⟨sv, pv, rfl, hs, hp⟩ := ha
  obtain ⟨sv', pv', rfl, hs', hp'⟩ := hb
  have HLW := Lib.hid (fun u h1 h2 => refLikeWrites_any pv pv' x.pend y.pend u h1 h2)
  have HP := Lib.hid hp; have HP' := Lib.hid hp'
  obtain ⟨a, len, cap, rfl, hlen, hc1, hc2, hbs, hat⟩ := hs
  obtain ⟨a', len', cap', rfl, hlen', hc1', hc2', hbs', hat'⟩ := hs'
  obtain ⟨c, n, ccap, rfl, hn, hd1, hd2, _, _⟩ := hp
  obtain ⟨c', n', ccap', rfl, hn', hd1', hd2', _, _⟩ := hp'
  have hlI : (len : Int) ≤ 9223372036854775807 := by omega
  have hlI' : (len' : Int) ≤ 9223372036854775807 := by omega
  have hnI : (n : Int) ≤ 9223372036854775807 := by omega
  have hnI' : (n' : Int) ≤ 9223372036854775807 := by omega
  have HA := Lib.hid hat; have HA' := Lib.hid hat'
  have hb2 : Below w.heap.size w ((w.alloc (.cells #[.slice a len cap, .slice c n ccap] 25)).alloc (.cells #[.slice a' len' cap', .slice c' n' ccap'] 25)) := ((Below.refl _ w).alloc (Nat.le_refl _) _).alloc (by simp) _
  have hB0 := heap_alloc2_old w (.cells #[.slice a len cap, .slice c n ccap] 25) (.cells #[.slice a' len' cap', .slice c' n' ccap'] 25)
  have hB1 := heap_alloc2_new w (.cells #[.slice a len cap, .slice c n ccap] 25) (.cells #[.slice a' len' cap', .slice c' n' ccap'] 25)
  clear hat hat' hbs hbs'
  by_cases hll : len = len'
  · by_cases hnn : n = n'
    · subst hll hnn
      go_enter Tryz.func72, Tryz.ntmps72
      go_wp2_with fail
      generalize (w.alloc (.cells #[.slice a len cap, .slice c n ccap] 25)).alloc (.cells #[.slice a' len cap', .slice c' n ccap'] 25) = W1 at *
      have hl0 := (Array.getElem?_eq_some_iff.1 hB0).1
      have hl1 := (Array.getElem?_eq_some_iff.1 hB1).1
      have z0 : W1.cell? ⟨w.heap.size, 0, none⟩ = some (.slice a len cap) := by rw [cell_of_row _ _ 0 _ _ _ hB0]; rfl
      have z1 : W1.cell? ⟨w.heap.size, 1, none⟩ = some (.slice c n ccap) := by rw [cell_of_row _ _ 1 _ _ _ hB0]; rfl
      have z2 : W1.cell? ⟨w.heap.size + 1, 0, none⟩ = some (.slice a' len cap') := by rw [cell_of_row _ _ 0 _ _ _ hB1]; rfl
      have z3 : W1.cell? ⟨w.heap.size + 1, 1, none⟩ = some (.slice c' n ccap') := by rw [cell_of_row _ _ 1 _ _ _ hB1]; rfl
      clear hB0 hB1
      go_loopw [25] (fun z wr => ∃ k : Nat, k ≤ len ∧ z = .int .i64 k ∧ x.secs.take k = y.secs.take k ∧ Below W1.heap.size W1 wr) (fun z _ => len - (intOf z).toNat)
      case atStart => exact ⟨0, by omega, rfl, rfl, Below.refl _ _⟩
      case round =>
        obtain ⟨k, hk, rfl, hpre, hbel⟩ := hrel
        have y0 := (hbel.cell (p := ⟨w.heap.size, 0, none⟩) hl0).trans z0
        have y1 := (hbel.cell (p := ⟨w.heap.size, 1, none⟩) hl0).trans z1
        have y2 := (hbel.cell (p := ⟨w.heap.size + 1, 0, none⟩) hl1).trans z2
        have y3 := (hbel.cell (p := ⟨w.heap.size + 1, 1, none⟩) hl1).trans z3
        have hbw := hb2.trans (hbel.mono hb2.size)
        by_cases hlt : k < len
        · have hkI : (k : Int) < len := by omega
          obtain ⟨b, off, rfl, hb, hat⟩ := HA.out.resolve_left (by omega)
          obtain ⟨b', off', rfl, hb', hat'⟩ := HA'.out.resolve_left (by omega)
          have x0 := (hbw.cell (p := ⟨b, off + k, none⟩) hb).trans (hat k hlt)
          have x1 := (hbw.cell (p := ⟨b', off' + k, none⟩) hb').trans (hat' k hlt)
          have hka : k < x.secs.length := by omega
          have hkb : k < y.secs.length := by omega
          have ea : x.secs.getD k ByteArray.empty = x.secs[k] := by simp [List.getD, hka]
          have eb : y.secs.getD k ByteArray.empty = y.secs[k] := by simp [List.getD, hkb]
          rw [ea] at x0
          rw [eb] at x1
          have hsn : x.secs[k] = y.secs[k] → x.secs.take (k + 1) = y.secs.take (k + 1) := fun h => by
            rw [← List.take_append_getElem hka, ← List.take_append_getElem hkb, hpre, h]
          have hno : x.secs[k] ≠ y.secs[k] → decide (x = y) = false := fun h => decide_eq_false (fun e => h (by subst e; rfl))
          have HSN := Lib.hid hsn; have HNO := Lib.hid hno
          clear hat hat' ea eb hsn hno hpre
          generalize x.secs[k] = X at *
          generalize y.secs[k] = Y at *
          by_cases h1 : X = Y
          · subst h1
            have HS2 := Lib.hid (HSN.out rfl)
            clear HSN HNO
            go_wp2_with fail
            go_quiet (fail)
            go_wp2_with fail
            go_roundw
            case rel => exact ⟨k + 1, by omega, by go_num, HS2.out, by first | exact hbel | exact belowN hbel _⟩
            case measure => simp [intOf]; omega
          · have hd := HNO.out h1
            have hne := ba_tne h1
            have HD := Lib.hid hd
            clear hd HSN HNO h1
            go_wp2_with fail
            go_quiet (fail)
            go_wp2_with fail
            go_ret
            exact ⟨by rw [HD.out]; rfl, by first | exact hbw | exact belowN hbw _⟩
        · obtain rfl : k = len := by omega
          have hss : x.secs = y.secs := by rwa [List.take_of_length_le (by omega), List.take_of_length_le (by omega)] at hpre
          have hd : decide (x = y) = decide (x.pend = y.pend) := by
            rw [decide_eq_decide]
            refine ⟨fun e => by rw [e], fun e => ?_⟩
            cases x; cases y; simp_all
          have HD := Lib.hid hd
          clear hd hss hpre hlt
          go_wp2_with fail
          refine (HLW.out wr (HP.out.below hbw) (HP'.out.below hbw)).mono ?_
          rintro e w5 ⟨rfl, hb5⟩
          go_wp2_with fail
          go_ret
          exact ⟨by rw [HD.out]; rfl, hbw.trans (hb5.mono hbw.size)⟩
    · subst hll
      have hF : decide (x = y) = false := decide_eq_false (fun e => hnn (by rw [← hn, ← hn', e]))
      rw [hF]
      have hne : (n : Int) ≠ n' := by omega
      clear hF hnn
      go_enter Tryz.func72, Tryz.ntmps72
      go_wp2_with fail
      go_ret
      exact ⟨rfl, hb2⟩
  · have hF : decide (x = y) = false := decide_eq_false (fun e => hll (by rw [← hlen, ← hlen', e]))
    rw [hF]
    have hne : (len : Int) ≠ len' := by omega
    clear hF hll
    go_enter Tryz.func72, Tryz.ntmps72
    go_wp2_with fail
    go_ret
    exact ⟨rfl, hb2⟩
end SRef03L
section SRefDo
open Go.RowKit
set_option linter.unusedVariables false

set_option maxRecDepth 100000 in
set_option maxHeartbeats 1000000 in
theorem refLikePower_any (va vb : Value) (x y : Dsk) (lx ly : Int) (w : World) (ha : IsPower w va x lx) (hb : IsPower w vb y ly) :
    Calls Tryz.prog 40 #[va, vb] w fun e w' => e = .returned (.bool (decide (lx = ly ∧ x = y))) ∧ Below w.heap.size w w' := by
  obtain ⟨a, cap, a', cap', rfl, hd⟩ := ha.form
  obtain ⟨b, bap, b', bap', rfl, hd'⟩ := hb.form
  have HL := Lib.hid (fun u h1 h2 => refLike_any (.agg #[.slice a x.secs.length cap, .slice a' x.pend.length cap']) (.agg #[.slice b y.secs.length bap, .slice b' y.pend.length bap']) x y u h1 h2)
  have HD := Lib.hid hd; have HD' := Lib.hid hd'
  generalize x.secs.length = m at *
  generalize x.pend.length = k at *
  generalize y.secs.length = m' at *
  generalize y.pend.length = k' at *
  clear ha hb hd hd'
  have hb2 : Below w.heap.size w ((w.alloc (.cells #[.slice a m cap, .slice a' k cap', .int .i64 lx] 27)).alloc (.cells #[.slice b m' bap, .slice b' k' bap', .int .i64 ly] 27)) := ((Below.refl _ w).alloc (Nat.le_refl _) _).alloc (by simp) _
  by_cases hl : lx = ly
  · have hl' : (lx == ly) = true := by rw [beq_iff_eq]; exact hl
    have hdd : decide (lx = ly ∧ x = y) = decide (x = y) := by simp [hl]
    rw [hdd]
    generalize decide (x = y) = B at *
    clear hl hdd
    go_enter Tryz.func40, Tryz.ntmps40
    go_wp2_with fail
    refine (HL.out _ (HD.out.below hb2) (HD'.out.below hb2)).mono ?_
    rintro e w2 ⟨rfl, hb3⟩
    go_wp2_with fail
    go_ret
    exact ⟨rfl, hb2.trans (hb3.mono hb2.size)⟩
  · have hl' : (lx == ly) = false := by rw [beq_eq_false_iff_ne]; exact hl
    have hdd : decide (lx = ly ∧ x = y) = false := by simp [hl]
    rw [hdd]
    clear hl hdd
    go_enter Tryz.func40, Tryz.ntmps40
    go_wp2_with fail
    go_ret
    exact ⟨rfl, hb2⟩
theorem heap3_new (w : World) (o o' o'' : Obj) : (((w.alloc o).alloc o').alloc o'').heap[w.heap.size + 2]? = some o'' := by
  have := heap_alloc_new ((w.alloc o).alloc o') o''
  rwa [World.size_alloc, World.size_alloc] at this
theorem heap3_mid (w : World) (o o' o'' : Obj) : (((w.alloc o).alloc o').alloc o'').heap[w.heap.size + 1]? = some o' := by
  have := heap_alloc_new (w.alloc o) o'
  rw [World.size_alloc] at this
  exact (heap_alloc_old _ _ (by simp)).trans this
theorem heap3_old (w : World) (o o' o'' : Obj) : (((w.alloc o).alloc o').alloc o'').heap[w.heap.size]? = some o :=
  (heap_alloc_old _ _ (by simp; omega)).trans ((heap_alloc_old _ _ (by simp)).trans (heap_alloc_new w o))
set_option maxRecDepth 100000 in
set_option maxHeartbeats 1000000 in
theorem refDo_no (v : Value) (d : Dsk) (left s c : Int) (x : ByteArray) (w : World) (h : IsPower w v d left) (hlo : -9223372036854775808 ≤ left) (hhi : left ≤ 9223372036854775807) (hxs : x.size ≤ 9223372036854775807)
    (hc : (readyE d left ≠ 0 ∧ c = readyE d left) ∨ (left ≠ 0 ∧ rightD d = true ∧ d.secs.length ≤ s ∧ c = 20) ∨ (left ≠ 0 ∧ rightD d = true ∧ (0 ≤ s ∧ s < d.secs.length) ∧ 512 < (trimS x).size ∧ c = 2)) :
    Calls Tryz.prog 65 #[v, .agg #[.int .i64 s, .string x]] w fun e w' => e = .returned (.tuple #[v, .int .i64 c]) ∧ Below w.heap.size w w' := by
  obtain ⟨a, cap, a', cap', rfl, hd⟩ := h.form
  have HR := Lib.hid (fun u hu => refDiskRight_any (.agg #[.slice a d.secs.length cap, .slice a' d.pend.length cap']) d u hu)
  have HT := Lib.hid (fun u => refTrim_any x u hxs)
  have HD := Lib.hid hd
  have hrd : readyE d left = if left = 0 then 21 else if rightD d = true then 0 else 1 := rfl
  have hxs2 : (trimS x).size ≤ 9223372036854775807 := Nat.le_trans (trimS_le x) hxs
  have hml : d.secs.length ≤ cap := by have := hd.form; obtain ⟨_, _, _, _, e, h1, _⟩ := this; injection e with e; have f1 := congrArg (fun z : Array Value => z[0]?) e; simp at f1; omega
  generalize readyE d left = r at *
  generalize d.secs.length = m at *
  generalize d.pend.length = k at *
  generalize trimS x = X at *
  generalize rightD d = rd at *
  have hxI : (X.size : Int) ≤ 9223372036854775807 := by omega
  clear h hd hxs2
  by_cases h0 : left = 0
  · subst h0
    rw [if_pos rfl] at hrd
    subst hrd
    have hc : c = 21 := by
      rcases hc with h | h | h
      · exact h.2
      · exact absurd rfl h.1
      · exact absurd rfl h.1
    subst hc
    clear HR HT HD
    go_enter Tryz.func65, Tryz.ntmps65
    go_wp2_with fail
    refine bodyPost_ret (results_row_tmp rfl _ _ (w.heap.size + 2) _ _ _ _ rfl (heap3_new w _ _ (.cells #[.slice a m cap, .slice a' k cap', .int .i64 0] 27)) Tryz.underlying27 rfl (by kernel_rfl)) rfl ⟨by first | (simp; rfl) | (simp; done), (((Below.refl w.heap.size w).alloc (Nat.le_refl _) _).alloc (by simp) _).alloc (by simp; omega) _⟩
  · rw [if_neg h0] at hrd
    have h0' : (left == 0) = false := by rw [beq_eq_false_iff_ne]; exact h0
    go_enter Tryz.func65, Tryz.ntmps65
    go_wp2_with fail
    have hw2 : Below w.heap.size w (((w.alloc (.cells #[.slice a m cap, .slice a' k cap', .int .i64 left] 27)).alloc (.cells #[.int .i64 s, .string x] 68)).alloc (.cells #[.slice none 0 0, .slice none 0 0, .int .i64 0] 27)) := (((Below.refl w.heap.size w).alloc (Nat.le_refl _) _).alloc (by simp) _).alloc (by simp; omega) _
    have hA2 := heap3_old w (.cells #[.slice a m cap, .slice a' k cap', .int .i64 left] 27) (.cells #[.int .i64 s, .string x] 68) (.cells #[.slice none 0 0, .slice none 0 0, .int .i64 0] 27)
    have hC2 := heap3_mid w (.cells #[.slice a m cap, .slice a' k cap', .int .i64 left] 27) (.cells #[.int .i64 s, .string x] 68) (.cells #[.slice none 0 0, .slice none 0 0, .int .i64 0] 27)
    have hB2 := heap3_new w (.cells #[.slice a m cap, .slice a' k cap', .int .i64 left] 27) (.cells #[.int .i64 s, .string x] 68) (.cells #[.slice none 0 0, .slice none 0 0, .int .i64 0] 27)
    obtain ⟨w2, hW2⟩ : ∃ w2, ((w.alloc (.cells #[.slice a m cap, .slice a' k cap', .int .i64 left] 27)).alloc (.cells #[.int .i64 s, .string x] 68)).alloc (.cells #[.slice none 0 0, .slice none 0 0, .int .i64 0] 27) = w2 := ⟨_, rfl⟩
    rw [hW2] at hw2 hA2 hC2 hB2 ⊢
    clear hW2
    have x0 := below_cell (Below.refl _ w2) hA2 0 rfl
    have x1 := below_cell (Below.refl _ w2) hA2 1 rfl
    go_wp2_with fail
    refine (HR.out w2 (HD.out.below hw2)).mono ?_
    rintro e w3 ⟨rfl, hb3⟩
    have hA3 := (hb3.block _ (Array.getElem?_eq_some_iff.1 hA2).1).trans hA2
    have hB3 := (hb3.block _ (Array.getElem?_eq_some_iff.1 hB2).1).trans hB2
    have hC3 := (hb3.block _ (Array.getElem?_eq_some_iff.1 hC2).1).trans hC2
    have hw3 := hw2.trans (hb3.mono hw2.size)
    clear hA2 hB2 hC2 hw2 hb3 x0 x1 HR
    cases rd with
    | false =>
      have hc : c = 1 := by
        rw [if_neg (by decide)] at hrd
        rcases hc with h | h | h
        · rw [h.2, hrd]
        · exact absurd h.2.1 (by decide)
        · exact absurd h.2.1 (by decide)
      subst hc
      clear hrd HT HD
      have x0 := below_cell (Below.refl _ w3) hA3 0 rfl
      have x1 := below_cell (Below.refl _ w3) hA3 1 rfl
      have x2 := below_cell (Below.refl _ w3) hA3 2 rfl
      have e0 := below_cell (Below.refl _ w3) hB3 0 rfl
      have e1 := below_cell (Below.refl _ w3) hB3 1 rfl
      have e2 := below_cell (Below.refl _ w3) hB3 2 rfl
      have f0 := block_frozen hB3 0
      have f1 := block_frozen hB3 1
      have f2 := block_frozen hB3 2
      have hset := set3_block hB3 (.slice a m cap) (.slice a' k cap') (.int .i64 left)
      have hw7 := set3_below hw3 (show w.heap.size ≤ w.heap.size + 2 by omega) (.slice a m cap) (.slice a' k cap') (.int .i64 left)
      have HSET := Lib.hid hset; have HW7 := Lib.hid hw7
      clear hset hw7 hA3 hB3 hw3
      unfold set3 at HSET HW7
      go_wp2_with fail
      refine bodyPost_ret (results_row_tmp rfl _ _ (w.heap.size + 2) _ _ _ _ rfl HSET.out Tryz.underlying27 rfl (by kernel_rfl)) rfl ⟨by first | (simp; rfl) | (simp; done), HW7.out⟩
    | true =>
      have hc2 : (m ≤ s ∧ c = 20) ∨ ((0 ≤ s ∧ s < m) ∧ 512 < X.size ∧ c = 2) := by
        rw [if_pos rfl] at hrd
        rcases hc with h | h | h
        · exact absurd hrd h.1
        · exact .inl h.2.2
        · exact .inr h.2.2
      have hs0 : ¬ s < 0 := by omega
      clear hrd HD hc
      have x0 := below_cell (Below.refl _ w3) hA3 0 rfl
      have x1 := below_cell (Below.refl _ w3) hA3 1 rfl
      have x2 := below_cell (Below.refl _ w3) hA3 2 rfl
      have x0' := fun o : Obj => (World.cell?_of_block (a := ⟨w.heap.size, 0, none⟩) (Below.heap_alloc w3 o w.heap.size (Array.getElem?_eq_some_iff.1 hA3).1)).trans x0
      have x2' := fun o : Obj => (World.cell?_of_block (a := ⟨w.heap.size, 2, none⟩) (Below.heap_alloc w3 o w.heap.size (Array.getElem?_eq_some_iff.1 hA3).1)).trans x2
      by_cases hp : 0 < left
      · have hsp : spentI left = left - 1 := if_pos hp
        go_upto_region 8 with fail
        have hA4 := (heap_alloc_old w3 (.cells #[.slice none 0 0, .slice none 0 0, .int .i64 (left - 1)] 27) (Array.getElem?_eq_some_iff.1 hA3).1).trans hA3
        have hB4 := (heap_alloc_old w3 (.cells #[.slice none 0 0, .slice none 0 0, .int .i64 (left - 1)] 27) (Array.getElem?_eq_some_iff.1 hB3).1).trans hB3
        have hC4 := (heap_alloc_old w3 (.cells #[.slice none 0 0, .slice none 0 0, .int .i64 (left - 1)] 27) (Array.getElem?_eq_some_iff.1 hC3).1).trans hC3
        have hT4 := heap_alloc_new w3 (.cells #[.slice none 0 0, .slice none 0 0, .int .i64 (left - 1)] 27)
        have hw4 : Below w.heap.size w (w3.alloc (.cells #[.slice none 0 0, .slice none 0 0, .int .i64 (left - 1)] 27)) := hw3.alloc hw3.size _
        have hz3 := hw3.size
        have hzB := (Array.getElem?_eq_some_iff.1 hB3).1
        obtain ⟨w4, hW4⟩ : ∃ w4, w3.alloc (.cells #[.slice none 0 0, .slice none 0 0, .int .i64 (left - 1)] 27) = w4 := ⟨_, rfl⟩
        rw [hW4] at hA4 hB4 hC4 hT4 hw4 ⊢
        clear hW4 x0 x1 x2 hA3 hB3 hC3 hw3 x0' x2'
        have c0 := below_cell (Below.refl _ w4) hC4 0 rfl
        have c1 := below_cell (Below.refl _ w4) hC4 1 rfl
        have x0 := below_cell (Below.refl _ w4) hA4 0 rfl
        have x1 := below_cell (Below.refl _ w4) hA4 1 rfl
        go_wp2_with fail
        refine (HT.out w4).mono ?_
        rintro e w5 ⟨rfl, rfl⟩
        clear HT x0 x1
        rcases hc2 with ⟨hm, rfl⟩ | ⟨hm, hX, rfl⟩
        · have hmI : (m : Int) ≤ s := by omega
          clear hT4
          have x0 := below_cell (Below.refl _ w4) hA4 0 rfl
          have x1 := below_cell (Below.refl _ w4) hA4 1 rfl
          have x2 := below_cell (Below.refl _ w4) hA4 2 rfl
          have e0 := below_cell (Below.refl _ w4) hB4 0 rfl
          have e1 := below_cell (Below.refl _ w4) hB4 1 rfl
          have e2 := below_cell (Below.refl _ w4) hB4 2 rfl
          have f0 := block_frozen hB4 0
          have f1 := block_frozen hB4 1
          have f2 := block_frozen hB4 2
          have hset := set3_block hB4 (.slice a m cap) (.slice a' k cap') (.int .i64 left)
          have hw7 := set3_below hw4 (show w.heap.size ≤ w.heap.size + 2 by omega) (.slice a m cap) (.slice a' k cap') (.int .i64 left)
          have HSET := Lib.hid hset; have HW7 := Lib.hid hw7
          clear hset hw7 hA4 hB4 hw4
          unfold set3 at HSET HW7
          go_wp2_with fail
          refine bodyPost_ret (results_row_tmp rfl _ _ (w.heap.size + 2) _ _ _ _ rfl HSET.out Tryz.underlying27 rfl (by kernel_rfl)) rfl ⟨by first | (simp; rfl) | (simp; done), HW7.out⟩
        · have hmI : ¬ (m : Int) ≤ s := by omega
          have hmI2 : s < (m : Int) := by omega
          have hXI : (512 : Int) < X.size := by omega
          clear hT4
          have x0 := below_cell (Below.refl _ w4) hA4 0 rfl
          have x1 := below_cell (Below.refl _ w4) hA4 1 rfl
          have x2 := below_cell (Below.refl _ w4) hA4 2 rfl
          have e0 := below_cell (Below.refl _ w4) hB4 0 rfl
          have e1 := below_cell (Below.refl _ w4) hB4 1 rfl
          have e2 := below_cell (Below.refl _ w4) hB4 2 rfl
          have f0 := block_frozen hB4 0
          have f1 := block_frozen hB4 1
          have f2 := block_frozen hB4 2
          have hset := set3_block hB4 (.slice a m cap) (.slice a' k cap') (.int .i64 left)
          have hw7 := set3_below hw4 (show w.heap.size ≤ w.heap.size + 2 by omega) (.slice a m cap) (.slice a' k cap') (.int .i64 left)
          have HSET := Lib.hid hset; have HW7 := Lib.hid hw7
          clear hset hw7 hA4 hB4 hw4
          unfold set3 at HSET HW7
          go_wp2_with fail
          refine bodyPost_ret (results_row_tmp rfl _ _ (w.heap.size + 2) _ _ _ _ rfl HSET.out Tryz.underlying27 rfl (by kernel_rfl)) rfl ⟨by first | (simp; rfl) | (simp; done), HW7.out⟩
      · have hsp : spentI left = left := if_neg hp
        go_upto_region 8 with fail
        have hA4 := (heap_alloc_old w3 (.cells #[.slice none 0 0, .slice none 0 0, .int .i64 (left)] 27) (Array.getElem?_eq_some_iff.1 hA3).1).trans hA3
        have hB4 := (heap_alloc_old w3 (.cells #[.slice none 0 0, .slice none 0 0, .int .i64 (left)] 27) (Array.getElem?_eq_some_iff.1 hB3).1).trans hB3
        have hC4 := (heap_alloc_old w3 (.cells #[.slice none 0 0, .slice none 0 0, .int .i64 (left)] 27) (Array.getElem?_eq_some_iff.1 hC3).1).trans hC3
        have hT4 := heap_alloc_new w3 (.cells #[.slice none 0 0, .slice none 0 0, .int .i64 (left)] 27)
        have hw4 : Below w.heap.size w (w3.alloc (.cells #[.slice none 0 0, .slice none 0 0, .int .i64 (left)] 27)) := hw3.alloc hw3.size _
        have hz3 := hw3.size
        have hzB := (Array.getElem?_eq_some_iff.1 hB3).1
        obtain ⟨w4, hW4⟩ : ∃ w4, w3.alloc (.cells #[.slice none 0 0, .slice none 0 0, .int .i64 (left)] 27) = w4 := ⟨_, rfl⟩
        rw [hW4] at hA4 hB4 hC4 hT4 hw4 ⊢
        clear hW4 x0 x1 x2 hA3 hB3 hC3 hw3 x0' x2'
        have c0 := below_cell (Below.refl _ w4) hC4 0 rfl
        have c1 := below_cell (Below.refl _ w4) hC4 1 rfl
        have x0 := below_cell (Below.refl _ w4) hA4 0 rfl
        have x1 := below_cell (Below.refl _ w4) hA4 1 rfl
        go_wp2_with fail
        refine (HT.out w4).mono ?_
        rintro e w5 ⟨rfl, rfl⟩
        clear HT x0 x1
        rcases hc2 with ⟨hm, rfl⟩ | ⟨hm, hX, rfl⟩
        · have hmI : (m : Int) ≤ s := by omega
          clear hT4
          have x0 := below_cell (Below.refl _ w4) hA4 0 rfl
          have x1 := below_cell (Below.refl _ w4) hA4 1 rfl
          have x2 := below_cell (Below.refl _ w4) hA4 2 rfl
          have e0 := below_cell (Below.refl _ w4) hB4 0 rfl
          have e1 := below_cell (Below.refl _ w4) hB4 1 rfl
          have e2 := below_cell (Below.refl _ w4) hB4 2 rfl
          have f0 := block_frozen hB4 0
          have f1 := block_frozen hB4 1
          have f2 := block_frozen hB4 2
          have hset := set3_block hB4 (.slice a m cap) (.slice a' k cap') (.int .i64 left)
          have hw7 := set3_below hw4 (show w.heap.size ≤ w.heap.size + 2 by omega) (.slice a m cap) (.slice a' k cap') (.int .i64 left)
          have HSET := Lib.hid hset; have HW7 := Lib.hid hw7
          clear hset hw7 hA4 hB4 hw4
          unfold set3 at HSET HW7
          go_wp2_with fail
          refine bodyPost_ret (results_row_tmp rfl _ _ (w.heap.size + 2) _ _ _ _ rfl HSET.out Tryz.underlying27 rfl (by kernel_rfl)) rfl ⟨by first | (simp; rfl) | (simp; done), HW7.out⟩
        · have hmI : ¬ (m : Int) ≤ s := by omega
          have hmI2 : s < (m : Int) := by omega
          have hXI : (512 : Int) < X.size := by omega
          clear hT4
          have x0 := below_cell (Below.refl _ w4) hA4 0 rfl
          have x1 := below_cell (Below.refl _ w4) hA4 1 rfl
          have x2 := below_cell (Below.refl _ w4) hA4 2 rfl
          have e0 := below_cell (Below.refl _ w4) hB4 0 rfl
          have e1 := below_cell (Below.refl _ w4) hB4 1 rfl
          have e2 := below_cell (Below.refl _ w4) hB4 2 rfl
          have f0 := block_frozen hB4 0
          have f1 := block_frozen hB4 1
          have f2 := block_frozen hB4 2
          have hset := set3_block hB4 (.slice a m cap) (.slice a' k cap') (.int .i64 left)
          have hw7 := set3_below hw4 (show w.heap.size ≤ w.heap.size + 2 by omega) (.slice a m cap) (.slice a' k cap') (.int .i64 left)
          have HSET := Lib.hid hset; have HW7 := Lib.hid hw7
          clear hset hw7 hA4 hB4 hw4
          unfold set3 at HSET HW7
          go_wp2_with fail
          refine bodyPost_ret (results_row_tmp rfl _ _ (w.heap.size + 2) _ _ _ _ rfl HSET.out Tryz.underlying27 rfl (by kernel_rfl)) rfl ⟨by first | (simp; rfl) | (simp; done), HW7.out⟩
theorem disk_setT {w : World} {v : Value} {d : Dsk} (h : IsDisk w v d) {g : Nat} {t : TypeId} {fr : Nat × Nat} {cs : Array Value} (hg : w.heap[g]? = some (.cells cs t fr)) (hno : ∀ (j : Nat) (s : ByteArray), cs[j]? ≠ some (Value.string s)) (x y : Value) : IsDisk ((w.setCell ⟨g, 0, none⟩ x).setCell ⟨g, 1, none⟩ y) v d := by
  obtain ⟨sv, pv, rfl, h1, h2⟩ := h
  have hk : ∀ b, b ≠ g → ((w.setCell ⟨g, 0, none⟩ x).setCell ⟨g, 1, none⟩ y).heap[b]? = w.heap[b]? := fun b h => (Below.heap_setCell _ _ _ _ h).trans (Below.heap_setCell _ _ _ _ h)
  exact ⟨sv, pv, rfl, h1.apart hg hno (by simp) hk, h2.apart hg hno (by simp) hk⟩
theorem flushD_eq (d : Dsk) (h : rightD d = true) : (⟨crashL d (List.replicate d.pend.length true) d.pend.length, []⟩ : Dsk) = flushD d := (crash_eq d _ h).symm
set_option maxRecDepth 100000 in
set_option maxHeartbeats 1000000 in
theorem refDo_flush (v : Value) (d : Dsk) (left s : Int) (x : ByteArray) (w : World) (h : IsPower w v d left) (hlo : -9223372036854775808 ≤ left) (hhi : left ≤ 9223372036854775807) (h0 : left ≠ 0) (hr : rightD d = true) (hs : s < 0) :
    Calls Tryz.prog 65 #[v, .agg #[.int .i64 s, .string x]] w fun e w' => ∃ v', e = .returned (.tuple #[v', .int .i64 0]) ∧ IsPower w' v' (flushD d) (spentI left) ∧ Below w.heap.size w w' := by
  obtain ⟨a, cap, a', cap', rfl, hd⟩ := h.form
  have HR := Lib.hid (fun u hu => refDiskRight_any (.agg #[.slice a d.secs.length cap, .slice a' d.pend.length cap']) d u hu)
  rw [hr] at HR
  have HC := Lib.hid (fun u hu => refCrash_any (.agg #[.slice a d.secs.length cap, .slice a' d.pend.length cap']) (.slice none 0 0) d true [] (List.replicate d.pend.length true) u hu (noBools u) hr (fun t ht => by simp [List.getD_eq_getElem?_getD, ht]))
  rw [flushD_eq d hr] at HC
  have HD := Lib.hid hd
  generalize d.secs.length = m at *
  generalize d.pend.length = k at *
  have h0' : (left == 0) = false := by rw [beq_eq_false_iff_ne]; exact h0
  clear h hd hr
  go_enter Tryz.func65, Tryz.ntmps65
  go_wp2_with fail
  have hw2 : Below w.heap.size w (((w.alloc (.cells #[.slice a m cap, .slice a' k cap', .int .i64 left] 27)).alloc (.cells #[.int .i64 s, .string x] 68)).alloc (.cells #[.slice none 0 0, .slice none 0 0, .int .i64 0] 27)) := (((Below.refl w.heap.size w).alloc (Nat.le_refl _) _).alloc (by simp) _).alloc (by simp; omega) _
  have hA2 := heap3_old w (.cells #[.slice a m cap, .slice a' k cap', .int .i64 left] 27) (.cells #[.int .i64 s, .string x] 68) (.cells #[.slice none 0 0, .slice none 0 0, .int .i64 0] 27)
  have hC2 := heap3_mid w (.cells #[.slice a m cap, .slice a' k cap', .int .i64 left] 27) (.cells #[.int .i64 s, .string x] 68) (.cells #[.slice none 0 0, .slice none 0 0, .int .i64 0] 27)
  have hB2 := heap3_new w (.cells #[.slice a m cap, .slice a' k cap', .int .i64 left] 27) (.cells #[.int .i64 s, .string x] 68) (.cells #[.slice none 0 0, .slice none 0 0, .int .i64 0] 27)
  obtain ⟨w2, hW2⟩ : ∃ w2, ((w.alloc (.cells #[.slice a m cap, .slice a' k cap', .int .i64 left] 27)).alloc (.cells #[.int .i64 s, .string x] 68)).alloc (.cells #[.slice none 0 0, .slice none 0 0, .int .i64 0] 27) = w2 := ⟨_, rfl⟩
  rw [hW2] at hw2 hA2 hC2 hB2 ⊢
  clear hW2
  have x0 := below_cell (Below.refl _ w2) hA2 0 rfl
  have x1 := below_cell (Below.refl _ w2) hA2 1 rfl
  go_wp2_with fail
  refine (HR.out w2 (HD.out.below hw2)).mono ?_
  rintro e w3 ⟨rfl, hb3⟩
  have hA3 := (hb3.block _ (Array.getElem?_eq_some_iff.1 hA2).1).trans hA2
  have hB3 := (hb3.block _ (Array.getElem?_eq_some_iff.1 hB2).1).trans hB2
  have hC3 := (hb3.block _ (Array.getElem?_eq_some_iff.1 hC2).1).trans hC2
  have hw3 := hw2.trans (hb3.mono hw2.size)
  clear hA2 hB2 hC2 hw2 hb3 x0 x1 HR
  have x0 := below_cell (Below.refl _ w3) hA3 0 rfl
  have x1 := below_cell (Below.refl _ w3) hA3 1 rfl
  have x2 := below_cell (Below.refl _ w3) hA3 2 rfl
  have x0' := fun o : Obj => (World.cell?_of_block (a := ⟨w.heap.size, 0, none⟩) (Below.heap_alloc w3 o w.heap.size (Array.getElem?_eq_some_iff.1 hA3).1)).trans x0
  have x2' := fun o : Obj => (World.cell?_of_block (a := ⟨w.heap.size, 2, none⟩) (Below.heap_alloc w3 o w.heap.size (Array.getElem?_eq_some_iff.1 hA3).1)).trans x2
  by_cases hp : 0 < left
  · have hsp : spentI left = left - 1 := if_pos hp
    go_upto_region 8 with fail
    have hA4 := (heap_alloc_old w3 (.cells #[.slice none 0 0, .slice none 0 0, .int .i64 (left - 1)] 27) (Array.getElem?_eq_some_iff.1 hA3).1).trans hA3
    have hB4 := (heap_alloc_old w3 (.cells #[.slice none 0 0, .slice none 0 0, .int .i64 (left - 1)] 27) (Array.getElem?_eq_some_iff.1 hB3).1).trans hB3
    have hC4 := (heap_alloc_old w3 (.cells #[.slice none 0 0, .slice none 0 0, .int .i64 (left - 1)] 27) (Array.getElem?_eq_some_iff.1 hC3).1).trans hC3
    have hT4 := heap_alloc_new w3 (.cells #[.slice none 0 0, .slice none 0 0, .int .i64 (left - 1)] 27)
    have hw4 : Below w.heap.size w (w3.alloc (.cells #[.slice none 0 0, .slice none 0 0, .int .i64 (left - 1)] 27)) := hw3.alloc hw3.size _
    have hz3 := hw3.size
    have hzB := (Array.getElem?_eq_some_iff.1 hB3).1
    obtain ⟨w4, hW4⟩ : ∃ w4, w3.alloc (.cells #[.slice none 0 0, .slice none 0 0, .int .i64 (left - 1)] 27) = w4 := ⟨_, rfl⟩
    rw [hW4] at hA4 hB4 hC4 hT4 hw4 ⊢
    clear hW4 x0 x1 x2 hA3 hB3 hC3 hw3 x0' x2'
    have c0 := below_cell (Below.refl _ w4) hC4 0 rfl
    have c1 := below_cell (Below.refl _ w4) hC4 1 rfl
    have x0 := below_cell (Below.refl _ w4) hA4 0 rfl
    have x1 := below_cell (Below.refl _ w4) hA4 1 rfl
    go_wp2_with fail
    refine (HC.out w4 (HD.out.below hw4)).mono ?_
    rintro e w5 ⟨dv, rfl, hd5, hb5⟩
    obtain ⟨p, pc, p', pc', rfl, _⟩ := hd5.form
    generalize (flushD d).secs.length = n at *
    generalize (flushD d).pend.length = n' at *
    have hB5 := (hb5.block _ (Array.getElem?_eq_some_iff.1 hB4).1).trans hB4
    have hT5 := (hb5.block _ (Array.getElem?_eq_some_iff.1 hT4).1).trans hT4
    have hw5 := hw4.trans (hb5.mono hw4.size)
    clear hA4 hB4 hC4 hT4 hw4 hb5 x0 x1 c0 c1 HC HD
    have t0 := below_cell (Below.refl _ w5) hT5 0 rfl
    have t1 := below_cell (Below.refl _ w5) hT5 1 rfl
    have g0 := block_frozen hT5 0
    have g1 := block_frozen hT5 1
    go_upto_region 10 with fail
    have hd6 := disk_setT hd5 hT5 (no_text _ _ _ _ _ _ _) (.slice p n pc) (.slice p' n' pc')
    have hT6 := block_set (block_set hT5 0 (.slice p n pc)) 1 (.slice p' n' pc')
    have hw6 := set2_below hw5 hz3 (.slice p n pc) (.slice p' n' pc')
    have hB6 := ((Below.heap_setCell (w5.setCell ⟨w3.heap.size, 0, none⟩ (.slice p n pc)) ⟨w3.heap.size, 1, none⟩ (.slice p' n' pc') (w.heap.size + 2) (Nat.ne_of_lt hzB)).trans (Below.heap_setCell w5 ⟨w3.heap.size, 0, none⟩ (.slice p n pc) (w.heap.size + 2) (Nat.ne_of_lt hzB))).trans hB5
    obtain ⟨w6, hW6⟩ : ∃ w6, (w5.setCell ⟨w3.heap.size, 0, none⟩ (.slice p n pc)).setCell ⟨w3.heap.size, 1, none⟩ (.slice p' n' pc') = w6 := ⟨_, rfl⟩
    rw [hW6] at hd6 hT6 hw6 hB6 ⊢
    clear hW6 t0 t1 g0 g1 hT5 hw5 hB5 hd5
    have t0 := below_cell (Below.refl _ w6) hT6 0 rfl
    have t1 := below_cell (Below.refl _ w6) hT6 1 rfl
    have t2 := below_cell (Below.refl _ w6) hT6 2 rfl
    have e0 := below_cell (Below.refl _ w6) hB6 0 rfl
    have e1 := below_cell (Below.refl _ w6) hB6 1 rfl
    have e2 := below_cell (Below.refl _ w6) hB6 2 rfl
    have f0 := block_frozen hB6 0
    have f1 := block_frozen hB6 1
    have f2 := block_frozen hB6 2
    have hset := set3_block hB6 (.slice p n pc) (.slice p' n' pc') (.int .i64 (left - 1))
    have hp6 : IsPower w6 (.agg #[.slice p n pc, .slice p' n' pc', .int .i64 (left - 1)]) (flushD d) (left - 1) := power_of (left - 1) hd6
    have hp7 := hp6.apart hB6 (no_text _ _ _ _ _ _ _) (Nat.le_of_eq (set3_size w6 (w.heap.size + 2) (.slice p n pc) (.slice p' n' pc') (.int .i64 (left - 1))).symm) (set3_other w6 (w.heap.size + 2) (.slice p n pc) (.slice p' n' pc') (.int .i64 (left - 1)))
    have hw7 := set3_below hw6 (show w.heap.size ≤ w.heap.size + 2 by omega) (.slice p n pc) (.slice p' n' pc') (.int .i64 (left - 1))
    have HSET := Lib.hid hset; have HP7 := Lib.hid hp7; have HW7 := Lib.hid hw7
    clear hset hp6 hp7 hw7 hd6 hT6 hB6 hw6
    unfold set3 at HSET HP7 HW7
    go_wp2_with fail
    refine bodyPost_ret (results_row_tmp rfl _ _ (w.heap.size + 2) _ _ _ _ rfl HSET.out Tryz.underlying27 rfl (by kernel_rfl)) rfl ⟨.agg #[.slice p n pc, .slice p' n' pc', .int .i64 (left - 1)], by first | (simp; rfl) | (simp; done), by rw [hsp]; exact HP7.out, HW7.out⟩
  · have hsp : spentI left = left := if_neg hp
    go_upto_region 8 with fail
    have hA4 := (heap_alloc_old w3 (.cells #[.slice none 0 0, .slice none 0 0, .int .i64 (left)] 27) (Array.getElem?_eq_some_iff.1 hA3).1).trans hA3
    have hB4 := (heap_alloc_old w3 (.cells #[.slice none 0 0, .slice none 0 0, .int .i64 (left)] 27) (Array.getElem?_eq_some_iff.1 hB3).1).trans hB3
    have hC4 := (heap_alloc_old w3 (.cells #[.slice none 0 0, .slice none 0 0, .int .i64 (left)] 27) (Array.getElem?_eq_some_iff.1 hC3).1).trans hC3
    have hT4 := heap_alloc_new w3 (.cells #[.slice none 0 0, .slice none 0 0, .int .i64 (left)] 27)
    have hw4 : Below w.heap.size w (w3.alloc (.cells #[.slice none 0 0, .slice none 0 0, .int .i64 (left)] 27)) := hw3.alloc hw3.size _
    have hz3 := hw3.size
    have hzB := (Array.getElem?_eq_some_iff.1 hB3).1
    obtain ⟨w4, hW4⟩ : ∃ w4, w3.alloc (.cells #[.slice none 0 0, .slice none 0 0, .int .i64 (left)] 27) = w4 := ⟨_, rfl⟩
    rw [hW4] at hA4 hB4 hC4 hT4 hw4 ⊢
    clear hW4 x0 x1 x2 hA3 hB3 hC3 hw3 x0' x2'
    have c0 := below_cell (Below.refl _ w4) hC4 0 rfl
    have c1 := below_cell (Below.refl _ w4) hC4 1 rfl
    have x0 := below_cell (Below.refl _ w4) hA4 0 rfl
    have x1 := below_cell (Below.refl _ w4) hA4 1 rfl
    go_wp2_with fail
    refine (HC.out w4 (HD.out.below hw4)).mono ?_
    rintro e w5 ⟨dv, rfl, hd5, hb5⟩
    obtain ⟨p, pc, p', pc', rfl, _⟩ := hd5.form
    generalize (flushD d).secs.length = n at *
    generalize (flushD d).pend.length = n' at *
    have hB5 := (hb5.block _ (Array.getElem?_eq_some_iff.1 hB4).1).trans hB4
    have hT5 := (hb5.block _ (Array.getElem?_eq_some_iff.1 hT4).1).trans hT4
    have hw5 := hw4.trans (hb5.mono hw4.size)
    clear hA4 hB4 hC4 hT4 hw4 hb5 x0 x1 c0 c1 HC HD
    have t0 := below_cell (Below.refl _ w5) hT5 0 rfl
    have t1 := below_cell (Below.refl _ w5) hT5 1 rfl
    have g0 := block_frozen hT5 0
    have g1 := block_frozen hT5 1
    go_upto_region 10 with fail
    have hd6 := disk_setT hd5 hT5 (no_text _ _ _ _ _ _ _) (.slice p n pc) (.slice p' n' pc')
    have hT6 := block_set (block_set hT5 0 (.slice p n pc)) 1 (.slice p' n' pc')
    have hw6 := set2_below hw5 hz3 (.slice p n pc) (.slice p' n' pc')
    have hB6 := ((Below.heap_setCell (w5.setCell ⟨w3.heap.size, 0, none⟩ (.slice p n pc)) ⟨w3.heap.size, 1, none⟩ (.slice p' n' pc') (w.heap.size + 2) (Nat.ne_of_lt hzB)).trans (Below.heap_setCell w5 ⟨w3.heap.size, 0, none⟩ (.slice p n pc) (w.heap.size + 2) (Nat.ne_of_lt hzB))).trans hB5
    obtain ⟨w6, hW6⟩ : ∃ w6, (w5.setCell ⟨w3.heap.size, 0, none⟩ (.slice p n pc)).setCell ⟨w3.heap.size, 1, none⟩ (.slice p' n' pc') = w6 := ⟨_, rfl⟩
    rw [hW6] at hd6 hT6 hw6 hB6 ⊢
    clear hW6 t0 t1 g0 g1 hT5 hw5 hB5 hd5
    have t0 := below_cell (Below.refl _ w6) hT6 0 rfl
    have t1 := below_cell (Below.refl _ w6) hT6 1 rfl
    have t2 := below_cell (Below.refl _ w6) hT6 2 rfl
    have e0 := below_cell (Below.refl _ w6) hB6 0 rfl
    have e1 := below_cell (Below.refl _ w6) hB6 1 rfl
    have e2 := below_cell (Below.refl _ w6) hB6 2 rfl
    have f0 := block_frozen hB6 0
    have f1 := block_frozen hB6 1
    have f2 := block_frozen hB6 2
    have hset := set3_block hB6 (.slice p n pc) (.slice p' n' pc') (.int .i64 (left))
    have hp6 : IsPower w6 (.agg #[.slice p n pc, .slice p' n' pc', .int .i64 (left)]) (flushD d) (left) := power_of (left) hd6
    have hp7 := hp6.apart hB6 (no_text _ _ _ _ _ _ _) (Nat.le_of_eq (set3_size w6 (w.heap.size + 2) (.slice p n pc) (.slice p' n' pc') (.int .i64 (left))).symm) (set3_other w6 (w.heap.size + 2) (.slice p n pc) (.slice p' n' pc') (.int .i64 (left)))
    have hw7 := set3_below hw6 (show w.heap.size ≤ w.heap.size + 2 by omega) (.slice p n pc) (.slice p' n' pc') (.int .i64 (left))
    have HSET := Lib.hid hset; have HP7 := Lib.hid hp7; have HW7 := Lib.hid hw7
    clear hset hp6 hp7 hw7 hd6 hT6 hB6 hw6
    unfold set3 at HSET HP7 HW7
    go_wp2_with fail
    refine bodyPost_ret (results_row_tmp rfl _ _ (w.heap.size + 2) _ _ _ _ rfl HSET.out Tryz.underlying27 rfl (by kernel_rfl)) rfl ⟨.agg #[.slice p n pc, .slice p' n' pc', .int .i64 (left)], by first | (simp; rfl) | (simp; done), by rw [hsp]; exact HP7.out, HW7.out⟩
theorem wpList_extend_none {P : Program} {ops : Array Oper} {rest : List Oper} {o : Oper} {a : Act} {Q : Exit → Act → World → Prop} {w : World}
    (s x : Operand) (t : TypeId) {c : Nat} (hgd : o.guard = none) (ho : o.op = .call { callee := .builtin .append, args := #[s, x], argTypes := #[t, t] })
    (e : TypeId) {i : TypeInfo} (ht : P.underlying t = some (.slice e)) (hi : P.info? e = some i)
    (hs : a.eval s = .slice none 0 0) (hx : a.eval x = .slice none 0 c) (h : wpList P ops Q rest (a.put o.dst (.slice none 0 0)) w) : wpList P ops Q (o :: rest) a w := by
  refine wpList_plain hgd fun K hK' => ?_
  have hrun : (Builtin.append_ #[t, t] o.type #[.slice none 0 0, .slice none 0 c]).run P w = .ok (.slice none 0 0) w := by
    simp [Builtin.append_, run_underlying ht, sizeOf, typeInfo, hi, Builtin.lenOf, Builtin.firstCells]
  unfold Oper.wp
  simp [execOp, ho, resolve, invoke, builtin, hs, hx, hrun, Result.andThen]
  exact hK' _ _ h
set_option maxRecDepth 100000 in
set_option maxHeartbeats 1000000 in
theorem refDo_write (v : Value) (d : Dsk) (left s : Int) (x : ByteArray) (w : World) (h : IsPower w v d left) (hlo : -9223372036854775808 ≤ left) (hhi : left ≤ 9223372036854775807) (h0 : left ≠ 0) (hr : rightD d = true) (hs : 0 ≤ s ∧ s < d.secs.length)
    (hx : (trimS x).size ≤ 512) (hxs : x.size ≤ 9223372036854775807) (hk4 : d.pend.length ≤ 1000) :
    Calls Tryz.prog 65 #[v, .agg #[.int .i64 s, .string x]] w fun e w' => ∃ v', e = .returned (.tuple #[v', .int .i64 0]) ∧ IsPower w' v' (writeD d s x) (spentI left) ∧ Below w.heap.size w w' := by
  obtain ⟨i0, hi, hz0, hz1, hz2⟩ := info_parts infoWrt
  have hrl := right_len d hr
  obtain ⟨a, cap, a', cap', rfl, hd⟩ := h.form
  have HR := Lib.hid (fun u hu => refDiskRight_any (.agg #[.slice a d.secs.length cap, .slice a' d.pend.length cap']) d u hu)
  rw [hr] at HR
  have HT := Lib.hid (fun u => refTrim_any x u hxs)
  have HD := Lib.hid hd
  have HPB := Lib.hid (wrts_bnd hd.pend)
  have HPA := Lib.hid hd.pend
  have HSA := Lib.hid hd.secs
  have hml : d.secs.length ≤ cap := by have := hd.form; obtain ⟨_, _, _, _, e, h1, _⟩ := this; injection e with e; have f1 := congrArg (fun z : Array Value => z[0]?) e; simp at f1; omega
  generalize hm : d.secs.length = m at *
  generalize hk : d.pend.length = k at *
  generalize hX : trimS x = X at *
  have hmI : ¬ (m : Int) ≤ s := by omega
  have hmI2 : s < (m : Int) := by omega
  have hs0 : ¬ s < 0 := by omega
  have hs00 : 0 ≤ s := hs.1
  have hXI : ¬ (512 : Int) < X.size := by omega
  have hXI2 : (X.size : Int) ≤ 512 := by omega
  have h0' : (left == 0) = false := by rw [beq_eq_false_iff_ne]; exact h0
  have HK := Lib.hid hk; have HX := Lib.hid hX; have HS := Lib.hid hs; have HM := Lib.hid hm
  clear h hd hr hm hk hX hs hx
  go_enter Tryz.func65, Tryz.ntmps65
  go_wp2_with fail
  have hw2 : Below w.heap.size w (((w.alloc (.cells #[.slice a m cap, .slice a' k cap', .int .i64 left] 27)).alloc (.cells #[.int .i64 s, .string x] 68)).alloc (.cells #[.slice none 0 0, .slice none 0 0, .int .i64 0] 27)) := (((Below.refl w.heap.size w).alloc (Nat.le_refl _) _).alloc (by simp) _).alloc (by simp; omega) _
  have hA2 := heap3_old w (.cells #[.slice a m cap, .slice a' k cap', .int .i64 left] 27) (.cells #[.int .i64 s, .string x] 68) (.cells #[.slice none 0 0, .slice none 0 0, .int .i64 0] 27)
  have hC2 := heap3_mid w (.cells #[.slice a m cap, .slice a' k cap', .int .i64 left] 27) (.cells #[.int .i64 s, .string x] 68) (.cells #[.slice none 0 0, .slice none 0 0, .int .i64 0] 27)
  have hB2 := heap3_new w (.cells #[.slice a m cap, .slice a' k cap', .int .i64 left] 27) (.cells #[.int .i64 s, .string x] 68) (.cells #[.slice none 0 0, .slice none 0 0, .int .i64 0] 27)
  obtain ⟨w2, hW2⟩ : ∃ w2, ((w.alloc (.cells #[.slice a m cap, .slice a' k cap', .int .i64 left] 27)).alloc (.cells #[.int .i64 s, .string x] 68)).alloc (.cells #[.slice none 0 0, .slice none 0 0, .int .i64 0] 27) = w2 := ⟨_, rfl⟩
  rw [hW2] at hw2 hA2 hC2 hB2 ⊢
  clear hW2
  have x0 := below_cell (Below.refl _ w2) hA2 0 rfl
  have x1 := below_cell (Below.refl _ w2) hA2 1 rfl
  go_wp2_with fail
  refine (HR.out w2 (HD.out.below hw2)).mono ?_
  rintro e w3 ⟨rfl, hb3⟩
  have hA3 := (hb3.block _ (Array.getElem?_eq_some_iff.1 hA2).1).trans hA2
  have hB3 := (hb3.block _ (Array.getElem?_eq_some_iff.1 hB2).1).trans hB2
  have hC3 := (hb3.block _ (Array.getElem?_eq_some_iff.1 hC2).1).trans hC2
  have hw3 := hw2.trans (hb3.mono hw2.size)
  clear hA2 hB2 hC2 hw2 hb3 x0 x1 HR
  have x0 := below_cell (Below.refl _ w3) hA3 0 rfl
  have x1 := below_cell (Below.refl _ w3) hA3 1 rfl
  have x2 := below_cell (Below.refl _ w3) hA3 2 rfl
  have x0' := fun o : Obj => (World.cell?_of_block (a := ⟨w.heap.size, 0, none⟩) (Below.heap_alloc w3 o w.heap.size (Array.getElem?_eq_some_iff.1 hA3).1)).trans x0
  have x2' := fun o : Obj => (World.cell?_of_block (a := ⟨w.heap.size, 2, none⟩) (Below.heap_alloc w3 o w.heap.size (Array.getElem?_eq_some_iff.1 hA3).1)).trans x2
  by_cases hp : 0 < left
  · have hsp : spentI left = left - 1 := if_pos hp
    go_upto_region 8 with fail
    have hA4 := (heap_alloc_old w3 (.cells #[.slice none 0 0, .slice none 0 0, .int .i64 (left - 1)] 27) (Array.getElem?_eq_some_iff.1 hA3).1).trans hA3
    have hB4 := (heap_alloc_old w3 (.cells #[.slice none 0 0, .slice none 0 0, .int .i64 (left - 1)] 27) (Array.getElem?_eq_some_iff.1 hB3).1).trans hB3
    have hC4 := (heap_alloc_old w3 (.cells #[.slice none 0 0, .slice none 0 0, .int .i64 (left - 1)] 27) (Array.getElem?_eq_some_iff.1 hC3).1).trans hC3
    have hT4 := heap_alloc_new w3 (.cells #[.slice none 0 0, .slice none 0 0, .int .i64 (left - 1)] 27)
    have hw4 : Below w.heap.size w (w3.alloc (.cells #[.slice none 0 0, .slice none 0 0, .int .i64 (left - 1)] 27)) := hw3.alloc hw3.size _
    have hz3 := hw3.size
    have hzB := (Array.getElem?_eq_some_iff.1 hB3).1
    obtain ⟨w4, hW4⟩ : ∃ w4, w3.alloc (.cells #[.slice none 0 0, .slice none 0 0, .int .i64 (left - 1)] 27) = w4 := ⟨_, rfl⟩
    rw [hW4] at hA4 hB4 hC4 hT4 hw4 ⊢
    clear hW4 x0 x1 x2 hA3 hB3 hC3 hw3 x0' x2'
    have c0 := below_cell (Below.refl _ w4) hC4 0 rfl
    have c1 := below_cell (Below.refl _ w4) hC4 1 rfl
    have x0 := below_cell (Below.refl _ w4) hA4 0 rfl
    have x1 := below_cell (Below.refl _ w4) hA4 1 rfl
    have t0 := below_cell (Below.refl _ w4) hT4 0 rfl
    have t1 := below_cell (Below.refl _ w4) hT4 1 rfl
    have t2 := below_cell (Below.refl _ w4) hT4 2 rfl
    have g0 := block_frozen hT4 0
    go_upto_region 11 with fail
    go_wp2_with fail
    refine (HT.out w4).mono ?_
    rintro e w5 ⟨rfl, rfl⟩
    clear HT
    go_upto_region 17 with fail
    have hT5 := block_set hT4 0 (.slice a m cap)
    rw [show ((#[Value.slice none 0 0, .slice none 0 0, .int .i64 (left - 1)] : Array Value).setIfInBounds 0 (.slice a m cap)) = #[.slice a m cap, .slice none 0 0, .int .i64 (left - 1)] from rfl] at hT5
    have hw5 := hw4.setCell (p := ⟨w3.heap.size, 0, none⟩) hz3 (.slice a m cap)
    have hA5 := (Below.heap_setCell w4 ⟨w3.heap.size, 0, none⟩ (.slice a m cap) w.heap.size (by show w.heap.size ≠ w3.heap.size; omega)).trans hA4
    have hB5 := (Below.heap_setCell w4 ⟨w3.heap.size, 0, none⟩ (.slice a m cap) (w.heap.size + 2) (Nat.ne_of_lt hzB)).trans hB4
    have hC5 := (Below.heap_setCell w4 ⟨w3.heap.size, 0, none⟩ (.slice a m cap) (w.heap.size + 1) (by show w.heap.size + 1 ≠ w3.heap.size; omega)).trans hC4
    obtain ⟨w5, hW5⟩ : ∃ w5, w4.setCell ⟨w3.heap.size, 0, none⟩ (.slice a m cap) = w5 := ⟨_, rfl⟩
    rw [hW5] at hT5 hw5 hA5 hB5 hC5 ⊢
    clear hW5 hA4 hB4 hC4 hT4 hw4 x0 x1 c0 c1 t0 t1 t2 g0
    have x0 := below_cell (Below.refl _ w5) hA5 0 rfl
    have x1 := below_cell (Below.refl _ w5) hA5 1 rfl
    have t0 := below_cell (Below.refl _ w5) hT5 0 rfl
    have t1 := below_cell (Below.refl _ w5) hT5 1 rfl
    have t2 := below_cell (Below.refl _ w5) hT5 2 rfl
    have g1 := block_frozen hT5 1
    have hb55 := Below.refl w5.heap.size w5
    have hnil := World.ownsRow_nil w5 w5.heap.size 46 2
    have hwl : (wcells d.pend).length = k * 2 := by rw [wcells_len, HK.out]
    have h1c := wcells_one d.pend
    have hkey : ∃ src, (src = true ∧ a' = none ∧ k = 0) ∨ (src = false ∧ ∃ ad, a' = some ad ∧ ∀ j u, (wcells d.pend)[j]? = some u → w5.cell? (ad.add j) = some u) := by
      obtain ⟨_, _, _, e, hl, _, _, _, hat⟩ := HPA.out
      injection e with e1 e2 e3
      subst e1 e2 e3
      cases a' with
      | none =>
        refine ⟨true, .inl ⟨rfl, rfl, ?_⟩⟩
        rcases hat with h | ⟨b, off, h, _⟩
        · exact h
        · cases h
      | some ad =>
        refine ⟨false, .inr ⟨rfl, ad, rfl, fun j u hj => ?_⟩⟩
        obtain ⟨i, hil, hh⟩ := wcells_at d.pend j u hj
        obtain ⟨b, off, e, hb, hcc⟩ := hat.resolve_left (by omega)
        cases e
        obtain ⟨q0, q1⟩ := (hcc i (by omega)).below hw5 hb
        rw [addr_add]
        rcases hh with ⟨rfl, rfl⟩ | ⟨rfl, rfl⟩
        · exact q0
        · exact q1
    have HKEY := Lib.hid hkey
    have HWL := Lib.hid hwl
    clear hkey hwl
    have hzT : w3.heap.size < w5.heap.size := (Array.getElem?_eq_some_iff.1 hT5).1
    obtain ⟨src, ⟨_, rfl, hk0⟩ | ⟨_, ad, rfl, hsrc⟩⟩ := HKEY.out
    · clear HKEY
      subst hk0
      have hb8 := Below.refl w5.heap.size w5
      have hwn : wcells d.pend = [] := List.length_eq_zero_iff.1 (by have := HWL.out; omega)
      have hown8 : w5.ownsRow w5.heap.size 46 2 (.slice none 0 0) 0 (wcells d.pend) := by rw [hwn]; exact hnil
      have hT8 := (hb8.block _ (Array.getElem?_eq_some_iff.1 hT5).1).trans hT5
      have hB8 := (hb8.block _ (Array.getElem?_eq_some_iff.1 hB5).1).trans hB5
      have hC8 := (hb8.block _ (Array.getElem?_eq_some_iff.1 hC5).1).trans hC5
      have hw8 := hw5.trans (hb8.mono hw5.size)
      have t1 := below_cell (Below.refl _ w5) hT8 1 rfl
      have g1 := block_frozen hT8 1
      go_upto_region 18 with (first | (at_builtin; go_must (refine wpList_extend_none _ _ 23 rfl rfl 46 Tryz.underlying23 hi rfl rfl ?_)))
      have hown9 := ownsRow_setCell_below hown8 (a := ⟨w3.heap.size, 1, none⟩) hzT (.slice none 0 0)
      have hbb9 := hb8.size
      have hT9 := block_set hT8 1 (.slice none 0 0)
      rw [show ((#[Value.slice a m cap, .slice none 0 0, .int .i64 (left - 1)] : Array Value).setIfInBounds 1 (.slice none 0 0)) = #[.slice a m cap, .slice none 0 0, .int .i64 (left - 1)] from rfl] at hT9
      have hw9 := hw5.setCell (p := ⟨w3.heap.size, 1, none⟩) hz3 (.slice none 0 0)
      have hB9 := (Below.heap_setCell w5 ⟨w3.heap.size, 1, none⟩ (.slice none 0 0) (w.heap.size + 2) (Nat.ne_of_lt hzB)).trans hB8
      have hC9 := (Below.heap_setCell w5 ⟨w3.heap.size, 1, none⟩ (.slice none 0 0) (w.heap.size + 1) (by show w.heap.size + 1 ≠ w3.heap.size; omega)).trans hC8
      have hsz9 : w5.heap.size ≤ (w5.setCell ⟨w3.heap.size, 1, none⟩ (.slice none 0 0)).heap.size := by first | (simp; done) | simpa using hb8.size
      obtain ⟨w9, hW9⟩ : ∃ w9, w5.setCell ⟨w3.heap.size, 1, none⟩ (.slice none 0 0) = w9 := ⟨_, rfl⟩
      rw [hW9] at hown9 hT9 hw9 hB9 hC9 hsz9 ⊢
      clear hW9 hown8 hT8 hw8 hB8 hC8 t1 g1 hbb9
      have t0 := below_cell (Below.refl _ w9) hT9 0 rfl
      have t1 := below_cell (Below.refl _ w9) hT9 1 rfl
      have t2 := below_cell (Below.refl _ w9) hT9 2 rfl
      have c0 := below_cell (Below.refl _ w9) hC9 0 rfl
      have hzC := (Array.getElem?_eq_some_iff.1 hT9).1
      have hbr := (Below.refl w5.heap.size w9)
      go_wp2_with (first | (at_builtin; go_must (refine wpList_push _ _ 23 46 hown9 hbr hsz9 Tryz.underlying23 hi hz0 hz1 hz2 rfl (by decide) rfl rfl rfl rfl rfl ?c3 ?c4 ?_)))
      case c3 =>
        intro u hu
        simp only [List.mem_cons, List.not_mem_nil, or_false] at hu
        rcases hu with rfl | rfl <;> rfl
      case c4 => omega
      intro pw w10 hown10 hb10
      obtain ⟨na, nc, rfl⟩ := own_form hown10
      have hT10 := (hb10.block _ hzT).trans hT9
      have hB10 := (hb10.block _ (Nat.lt_trans hzB hzT)).trans hB9
      have hw10 := hw9.trans (hb10.mono (Nat.le_trans hw5.size (Nat.le_refl _)))
      have t0 := below_cell (Below.refl _ w10) hT10 0 rfl
      have t1 := below_cell (Below.refl _ w10) hT10 1 rfl
      have t2 := below_cell (Below.refl _ w10) hT10 2 rfl
      have g1 := block_frozen hT10 1
      clear hT9 hB9 hC9 hw9 hown9 hbr c0
      go_upto_region 19 with fail
      have hown11 := ownsRow_setCell_below hown10 (a := ⟨w3.heap.size, 1, none⟩) hzT (.slice na (0 + 1) nc)
      have hT11 := block_set hT10 1 (.slice na (0 + 1) nc)
      rw [show ((#[Value.slice a m cap, .slice none 0 0, .int .i64 (left - 1)] : Array Value).setIfInBounds 1 (.slice na (0 + 1) nc)) = #[.slice a m cap, .slice na (0 + 1) nc, .int .i64 (left - 1)] from rfl] at hT11
      have hw11 := hw10.setCell (p := ⟨w3.heap.size, 1, none⟩) hz3 (.slice na (0 + 1) nc)
      have hB11 := (Below.heap_setCell w10 ⟨w3.heap.size, 1, none⟩ (.slice na (0 + 1) nc) (w.heap.size + 2) (Nat.ne_of_lt hzB)).trans hB10
      obtain ⟨w11, hW11⟩ : ∃ w11, w10.setCell ⟨w3.heap.size, 1, none⟩ (.slice na (0 + 1) nc) = w11 := ⟨_, rfl⟩
      rw [hW11] at hown11 hT11 hw11 hB11 ⊢
      clear hW11 hown10 hT10 hw10 hB10 t0 t1 t2 g1 hb10
      have t0 := below_cell (Below.refl _ w11) hT11 0 rfl
      have t1 := below_cell (Below.refl _ w11) hT11 1 rfl
      have t2 := below_cell (Below.refl _ w11) hT11 2 rfl
      have e0 := below_cell (Below.refl _ w11) hB11 0 rfl
      have e1 := below_cell (Below.refl _ w11) hB11 1 rfl
      have e2 := below_cell (Below.refl _ w11) hB11 2 rfl
      have f0 := block_frozen hB11 0
      have f1 := block_frozen hB11 1
      have f2 := block_frozen hB11 2
      have hset := set3_block hB11 (.slice a m cap) (.slice na (0 + 1) nc) (.int .i64 (left - 1))
      have hw12 := set3_below hw11 (show w.heap.size ≤ w.heap.size + 2 by omega) (.slice a m cap) (.slice na (0 + 1) nc) (.int .i64 (left - 1))
      have hown12 := ownsRow_setCell_below (ownsRow_setCell_below (ownsRow_setCell_below hown11 (a := ⟨w.heap.size + 2, 0, none⟩) (Nat.lt_trans hzB hzT) (.slice a m cap)) (a := ⟨w.heap.size + 2, 1, none⟩) (Nat.lt_trans hzB hzT) (.slice na (0 + 1) nc)) (a := ⟨w.heap.size + 2, 2, none⟩) (Nat.lt_trans hzB hzT) (.int .i64 (left - 1))
      have hnb : ∀ y ∈ d.pend ++ [(⟨s, X⟩ : Wrt)], y.bounded := by
        intro y hy
        rcases List.mem_append.1 hy with hy | hy
        · exact HPB.out y hy
        · rw [List.mem_singleton.1 hy]
          have := HS.out
          exact ⟨⟨by show _ ≤ s; omega, by show s ≤ _; omega⟩, by show X.size ≤ _; omega⟩
      have hown13 : (set3 w11 (w.heap.size + 2) (.slice a m cap) (.slice na (0 + 1) nc) (.int .i64 (left - 1))).ownsRow w5.heap.size 46 2 (.slice na (0 + 1) nc) (0 + 1) (wcells (d.pend ++ [⟨s, X⟩])) := by
        rw [wcells_append]
        first | exact hown12 | (rw [hwn]; exact hown12)
      have hfin := own_wrts hown13 hnb
      have HSET := Lib.hid hset; have HW7 := Lib.hid hw12; have HF := Lib.hid hfin
      clear hset hw12 hown12 hown13 hown11 hT11 hB11 hw11 hnb hfin
      unfold set3 at HSET HW7 HF
      go_wp2_with fail
      refine bodyPost_ret (results_row_tmp rfl _ _ (w.heap.size + 2) _ _ _ _ rfl HSET.out Tryz.underlying27 rfl (by kernel_rfl)) rfl ⟨.agg #[.slice a m cap, .slice na (0 + 1) nc, .int .i64 (left - 1)], by first | (simp; rfl) | (simp; done), ?_, HW7.out⟩
      rw [hsp]
      refine ⟨_, _, rfl, HSA.out.below HW7.out, ?_⟩
      show IsWrts _ _ (d.pend ++ [⟨s, trimS x⟩])
      rw [HX.out]
      exact HF.out
    · have HSRC := Lib.hid hsrc
      clear HKEY hsrc
      go_wp2_with (first | (at_builtin; go_must (refine wpList_extend _ _ 23 46 (wcells d.pend) hnil hb55 (Nat.le_refl _) Tryz.underlying23 hi hz0 hz1 hz2 rfl (by decide) rfl rfl rfl rfl (.inr ⟨_, rfl, HSRC.out⟩) HWL.out h1c ?c2 ?_)))
      case c2 => omega
      intro v8 w8 hown8 hb8
      obtain ⟨pa, pc, rfl⟩ := own_form hown8
      have hT8 := (hb8.block _ (Array.getElem?_eq_some_iff.1 hT5).1).trans hT5
      have hB8 := (hb8.block _ (Array.getElem?_eq_some_iff.1 hB5).1).trans hB5
      have hC8 := (hb8.block _ (Array.getElem?_eq_some_iff.1 hC5).1).trans hC5
      have hw8 := hw5.trans (hb8.mono hw5.size)
      have t1 := below_cell (Below.refl _ w8) hT8 1 rfl
      have g1 := block_frozen hT8 1
      go_upto_region 18 with fail
      have hown9 := ownsRow_setCell_below hown8 (a := ⟨w3.heap.size, 1, none⟩) hzT (.slice pa k pc)
      have hbb9 := hb8.size
      have hT9 := block_set hT8 1 (.slice pa k pc)
      rw [show ((#[Value.slice a m cap, .slice none 0 0, .int .i64 (left - 1)] : Array Value).setIfInBounds 1 (.slice pa k pc)) = #[.slice a m cap, .slice pa k pc, .int .i64 (left - 1)] from rfl] at hT9
      have hw9 := hw8.setCell (p := ⟨w3.heap.size, 1, none⟩) hz3 (.slice pa k pc)
      have hB9 := (Below.heap_setCell w8 ⟨w3.heap.size, 1, none⟩ (.slice pa k pc) (w.heap.size + 2) (Nat.ne_of_lt hzB)).trans hB8
      have hC9 := (Below.heap_setCell w8 ⟨w3.heap.size, 1, none⟩ (.slice pa k pc) (w.heap.size + 1) (by show w.heap.size + 1 ≠ w3.heap.size; omega)).trans hC8
      have hsz9 : w5.heap.size ≤ (w8.setCell ⟨w3.heap.size, 1, none⟩ (.slice pa k pc)).heap.size := by first | (simp; done) | simpa using hb8.size
      obtain ⟨w9, hW9⟩ : ∃ w9, w8.setCell ⟨w3.heap.size, 1, none⟩ (.slice pa k pc) = w9 := ⟨_, rfl⟩
      rw [hW9] at hown9 hT9 hw9 hB9 hC9 hsz9 ⊢
      clear hW9 hown8 hT8 hw8 hB8 hC8 t1 g1 hbb9
      have t0 := below_cell (Below.refl _ w9) hT9 0 rfl
      have t1 := below_cell (Below.refl _ w9) hT9 1 rfl
      have t2 := below_cell (Below.refl _ w9) hT9 2 rfl
      have c0 := below_cell (Below.refl _ w9) hC9 0 rfl
      have hzC := (Array.getElem?_eq_some_iff.1 hT9).1
      have hbr := (Below.refl w5.heap.size w9)
      go_wp2_with (first | (at_builtin; go_must (refine wpList_push _ _ 23 46 hown9 hbr hsz9 Tryz.underlying23 hi hz0 hz1 hz2 rfl (by decide) rfl rfl rfl rfl rfl ?c3 ?c4 ?_)))
      case c3 =>
        intro u hu
        simp only [List.mem_cons, List.not_mem_nil, or_false] at hu
        rcases hu with rfl | rfl <;> rfl
      case c4 => omega
      intro pw w10 hown10 hb10
      obtain ⟨na, nc, rfl⟩ := own_form hown10
      have hT10 := (hb10.block _ hzT).trans hT9
      have hB10 := (hb10.block _ (Nat.lt_trans hzB hzT)).trans hB9
      have hw10 := hw9.trans (hb10.mono (Nat.le_trans hw5.size (Nat.le_refl _)))
      have t0 := below_cell (Below.refl _ w10) hT10 0 rfl
      have t1 := below_cell (Below.refl _ w10) hT10 1 rfl
      have t2 := below_cell (Below.refl _ w10) hT10 2 rfl
      have g1 := block_frozen hT10 1
      clear hT9 hB9 hC9 hw9 hown9 hbr c0
      go_upto_region 19 with fail
      have hown11 := ownsRow_setCell_below hown10 (a := ⟨w3.heap.size, 1, none⟩) hzT (.slice na (k + 1) nc)
      have hT11 := block_set hT10 1 (.slice na (k + 1) nc)
      rw [show ((#[Value.slice a m cap, .slice pa k pc, .int .i64 (left - 1)] : Array Value).setIfInBounds 1 (.slice na (k + 1) nc)) = #[.slice a m cap, .slice na (k + 1) nc, .int .i64 (left - 1)] from rfl] at hT11
      have hw11 := hw10.setCell (p := ⟨w3.heap.size, 1, none⟩) hz3 (.slice na (k + 1) nc)
      have hB11 := (Below.heap_setCell w10 ⟨w3.heap.size, 1, none⟩ (.slice na (k + 1) nc) (w.heap.size + 2) (Nat.ne_of_lt hzB)).trans hB10
      obtain ⟨w11, hW11⟩ : ∃ w11, w10.setCell ⟨w3.heap.size, 1, none⟩ (.slice na (k + 1) nc) = w11 := ⟨_, rfl⟩
      rw [hW11] at hown11 hT11 hw11 hB11 ⊢
      clear hW11 hown10 hT10 hw10 hB10 t0 t1 t2 g1 hb10
      have t0 := below_cell (Below.refl _ w11) hT11 0 rfl
      have t1 := below_cell (Below.refl _ w11) hT11 1 rfl
      have t2 := below_cell (Below.refl _ w11) hT11 2 rfl
      have e0 := below_cell (Below.refl _ w11) hB11 0 rfl
      have e1 := below_cell (Below.refl _ w11) hB11 1 rfl
      have e2 := below_cell (Below.refl _ w11) hB11 2 rfl
      have f0 := block_frozen hB11 0
      have f1 := block_frozen hB11 1
      have f2 := block_frozen hB11 2
      have hset := set3_block hB11 (.slice a m cap) (.slice na (k + 1) nc) (.int .i64 (left - 1))
      have hw12 := set3_below hw11 (show w.heap.size ≤ w.heap.size + 2 by omega) (.slice a m cap) (.slice na (k + 1) nc) (.int .i64 (left - 1))
      have hown12 := ownsRow_setCell_below (ownsRow_setCell_below (ownsRow_setCell_below hown11 (a := ⟨w.heap.size + 2, 0, none⟩) (Nat.lt_trans hzB hzT) (.slice a m cap)) (a := ⟨w.heap.size + 2, 1, none⟩) (Nat.lt_trans hzB hzT) (.slice na (k + 1) nc)) (a := ⟨w.heap.size + 2, 2, none⟩) (Nat.lt_trans hzB hzT) (.int .i64 (left - 1))
      have hnb : ∀ y ∈ d.pend ++ [(⟨s, X⟩ : Wrt)], y.bounded := by
        intro y hy
        rcases List.mem_append.1 hy with hy | hy
        · exact HPB.out y hy
        · rw [List.mem_singleton.1 hy]
          have := HS.out
          exact ⟨⟨by show _ ≤ s; omega, by show s ≤ _; omega⟩, by show X.size ≤ _; omega⟩
      have hown13 : (set3 w11 (w.heap.size + 2) (.slice a m cap) (.slice na (k + 1) nc) (.int .i64 (left - 1))).ownsRow w5.heap.size 46 2 (.slice na (k + 1) nc) (k + 1) (wcells (d.pend ++ [⟨s, X⟩])) := by
        rw [wcells_append]
        first | exact hown12 | (rw [hwn]; exact hown12)
      have hfin := own_wrts hown13 hnb
      have HSET := Lib.hid hset; have HW7 := Lib.hid hw12; have HF := Lib.hid hfin
      clear hset hw12 hown12 hown13 hown11 hT11 hB11 hw11 hnb hfin
      unfold set3 at HSET HW7 HF
      go_wp2_with fail
      refine bodyPost_ret (results_row_tmp rfl _ _ (w.heap.size + 2) _ _ _ _ rfl HSET.out Tryz.underlying27 rfl (by kernel_rfl)) rfl ⟨.agg #[.slice a m cap, .slice na (k + 1) nc, .int .i64 (left - 1)], by first | (simp; rfl) | (simp; done), ?_, HW7.out⟩
      rw [hsp]
      refine ⟨_, _, rfl, HSA.out.below HW7.out, ?_⟩
      show IsWrts _ _ (d.pend ++ [⟨s, trimS x⟩])
      rw [HX.out]
      exact HF.out
  · have hsp : spentI left = left := if_neg hp
    go_upto_region 8 with fail
    have hA4 := (heap_alloc_old w3 (.cells #[.slice none 0 0, .slice none 0 0, .int .i64 (left)] 27) (Array.getElem?_eq_some_iff.1 hA3).1).trans hA3
    have hB4 := (heap_alloc_old w3 (.cells #[.slice none 0 0, .slice none 0 0, .int .i64 (left)] 27) (Array.getElem?_eq_some_iff.1 hB3).1).trans hB3
    have hC4 := (heap_alloc_old w3 (.cells #[.slice none 0 0, .slice none 0 0, .int .i64 (left)] 27) (Array.getElem?_eq_some_iff.1 hC3).1).trans hC3
    have hT4 := heap_alloc_new w3 (.cells #[.slice none 0 0, .slice none 0 0, .int .i64 (left)] 27)
    have hw4 : Below w.heap.size w (w3.alloc (.cells #[.slice none 0 0, .slice none 0 0, .int .i64 (left)] 27)) := hw3.alloc hw3.size _
    have hz3 := hw3.size
    have hzB := (Array.getElem?_eq_some_iff.1 hB3).1
    obtain ⟨w4, hW4⟩ : ∃ w4, w3.alloc (.cells #[.slice none 0 0, .slice none 0 0, .int .i64 (left)] 27) = w4 := ⟨_, rfl⟩
    rw [hW4] at hA4 hB4 hC4 hT4 hw4 ⊢
    clear hW4 x0 x1 x2 hA3 hB3 hC3 hw3 x0' x2'
    have c0 := below_cell (Below.refl _ w4) hC4 0 rfl
    have c1 := below_cell (Below.refl _ w4) hC4 1 rfl
    have x0 := below_cell (Below.refl _ w4) hA4 0 rfl
    have x1 := below_cell (Below.refl _ w4) hA4 1 rfl
    have t0 := below_cell (Below.refl _ w4) hT4 0 rfl
    have t1 := below_cell (Below.refl _ w4) hT4 1 rfl
    have t2 := below_cell (Below.refl _ w4) hT4 2 rfl
    have g0 := block_frozen hT4 0
    go_upto_region 11 with fail
    go_wp2_with fail
    refine (HT.out w4).mono ?_
    rintro e w5 ⟨rfl, rfl⟩
    clear HT
    go_upto_region 17 with fail
    have hT5 := block_set hT4 0 (.slice a m cap)
    rw [show ((#[Value.slice none 0 0, .slice none 0 0, .int .i64 (left)] : Array Value).setIfInBounds 0 (.slice a m cap)) = #[.slice a m cap, .slice none 0 0, .int .i64 (left)] from rfl] at hT5
    have hw5 := hw4.setCell (p := ⟨w3.heap.size, 0, none⟩) hz3 (.slice a m cap)
    have hA5 := (Below.heap_setCell w4 ⟨w3.heap.size, 0, none⟩ (.slice a m cap) w.heap.size (by show w.heap.size ≠ w3.heap.size; omega)).trans hA4
    have hB5 := (Below.heap_setCell w4 ⟨w3.heap.size, 0, none⟩ (.slice a m cap) (w.heap.size + 2) (Nat.ne_of_lt hzB)).trans hB4
    have hC5 := (Below.heap_setCell w4 ⟨w3.heap.size, 0, none⟩ (.slice a m cap) (w.heap.size + 1) (by show w.heap.size + 1 ≠ w3.heap.size; omega)).trans hC4
    obtain ⟨w5, hW5⟩ : ∃ w5, w4.setCell ⟨w3.heap.size, 0, none⟩ (.slice a m cap) = w5 := ⟨_, rfl⟩
    rw [hW5] at hT5 hw5 hA5 hB5 hC5 ⊢
    clear hW5 hA4 hB4 hC4 hT4 hw4 x0 x1 c0 c1 t0 t1 t2 g0
    have x0 := below_cell (Below.refl _ w5) hA5 0 rfl
    have x1 := below_cell (Below.refl _ w5) hA5 1 rfl
    have t0 := below_cell (Below.refl _ w5) hT5 0 rfl
    have t1 := below_cell (Below.refl _ w5) hT5 1 rfl
    have t2 := below_cell (Below.refl _ w5) hT5 2 rfl
    have g1 := block_frozen hT5 1
    have hb55 := Below.refl w5.heap.size w5
    have hnil := World.ownsRow_nil w5 w5.heap.size 46 2
    have hwl : (wcells d.pend).length = k * 2 := by rw [wcells_len, HK.out]
    have h1c := wcells_one d.pend
    have hkey : ∃ src, (src = true ∧ a' = none ∧ k = 0) ∨ (src = false ∧ ∃ ad, a' = some ad ∧ ∀ j u, (wcells d.pend)[j]? = some u → w5.cell? (ad.add j) = some u) := by
      obtain ⟨_, _, _, e, hl, _, _, _, hat⟩ := HPA.out
      injection e with e1 e2 e3
      subst e1 e2 e3
      cases a' with
      | none =>
        refine ⟨true, .inl ⟨rfl, rfl, ?_⟩⟩
        rcases hat with h | ⟨b, off, h, _⟩
        · exact h
        · cases h
      | some ad =>
        refine ⟨false, .inr ⟨rfl, ad, rfl, fun j u hj => ?_⟩⟩
        obtain ⟨i, hil, hh⟩ := wcells_at d.pend j u hj
        obtain ⟨b, off, e, hb, hcc⟩ := hat.resolve_left (by omega)
        cases e
        obtain ⟨q0, q1⟩ := (hcc i (by omega)).below hw5 hb
        rw [addr_add]
        rcases hh with ⟨rfl, rfl⟩ | ⟨rfl, rfl⟩
        · exact q0
        · exact q1
    have HKEY := Lib.hid hkey
    have HWL := Lib.hid hwl
    clear hkey hwl
    have hzT : w3.heap.size < w5.heap.size := (Array.getElem?_eq_some_iff.1 hT5).1
    obtain ⟨src, ⟨_, rfl, hk0⟩ | ⟨_, ad, rfl, hsrc⟩⟩ := HKEY.out
    · clear HKEY
      subst hk0
      have hb8 := Below.refl w5.heap.size w5
      have hwn : wcells d.pend = [] := List.length_eq_zero_iff.1 (by have := HWL.out; omega)
      have hown8 : w5.ownsRow w5.heap.size 46 2 (.slice none 0 0) 0 (wcells d.pend) := by rw [hwn]; exact hnil
      have hT8 := (hb8.block _ (Array.getElem?_eq_some_iff.1 hT5).1).trans hT5
      have hB8 := (hb8.block _ (Array.getElem?_eq_some_iff.1 hB5).1).trans hB5
      have hC8 := (hb8.block _ (Array.getElem?_eq_some_iff.1 hC5).1).trans hC5
      have hw8 := hw5.trans (hb8.mono hw5.size)
      have t1 := below_cell (Below.refl _ w5) hT8 1 rfl
      have g1 := block_frozen hT8 1
      go_upto_region 18 with (first | (at_builtin; go_must (refine wpList_extend_none _ _ 23 rfl rfl 46 Tryz.underlying23 hi rfl rfl ?_)))
      have hown9 := ownsRow_setCell_below hown8 (a := ⟨w3.heap.size, 1, none⟩) hzT (.slice none 0 0)
      have hbb9 := hb8.size
      have hT9 := block_set hT8 1 (.slice none 0 0)
      rw [show ((#[Value.slice a m cap, .slice none 0 0, .int .i64 (left)] : Array Value).setIfInBounds 1 (.slice none 0 0)) = #[.slice a m cap, .slice none 0 0, .int .i64 (left)] from rfl] at hT9
      have hw9 := hw5.setCell (p := ⟨w3.heap.size, 1, none⟩) hz3 (.slice none 0 0)
      have hB9 := (Below.heap_setCell w5 ⟨w3.heap.size, 1, none⟩ (.slice none 0 0) (w.heap.size + 2) (Nat.ne_of_lt hzB)).trans hB8
      have hC9 := (Below.heap_setCell w5 ⟨w3.heap.size, 1, none⟩ (.slice none 0 0) (w.heap.size + 1) (by show w.heap.size + 1 ≠ w3.heap.size; omega)).trans hC8
      have hsz9 : w5.heap.size ≤ (w5.setCell ⟨w3.heap.size, 1, none⟩ (.slice none 0 0)).heap.size := by first | (simp; done) | simpa using hb8.size
      obtain ⟨w9, hW9⟩ : ∃ w9, w5.setCell ⟨w3.heap.size, 1, none⟩ (.slice none 0 0) = w9 := ⟨_, rfl⟩
      rw [hW9] at hown9 hT9 hw9 hB9 hC9 hsz9 ⊢
      clear hW9 hown8 hT8 hw8 hB8 hC8 t1 g1 hbb9
      have t0 := below_cell (Below.refl _ w9) hT9 0 rfl
      have t1 := below_cell (Below.refl _ w9) hT9 1 rfl
      have t2 := below_cell (Below.refl _ w9) hT9 2 rfl
      have c0 := below_cell (Below.refl _ w9) hC9 0 rfl
      have hzC := (Array.getElem?_eq_some_iff.1 hT9).1
      have hbr := (Below.refl w5.heap.size w9)
      go_wp2_with (first | (at_builtin; go_must (refine wpList_push _ _ 23 46 hown9 hbr hsz9 Tryz.underlying23 hi hz0 hz1 hz2 rfl (by decide) rfl rfl rfl rfl rfl ?c3 ?c4 ?_)))
      case c3 =>
        intro u hu
        simp only [List.mem_cons, List.not_mem_nil, or_false] at hu
        rcases hu with rfl | rfl <;> rfl
      case c4 => omega
      intro pw w10 hown10 hb10
      obtain ⟨na, nc, rfl⟩ := own_form hown10
      have hT10 := (hb10.block _ hzT).trans hT9
      have hB10 := (hb10.block _ (Nat.lt_trans hzB hzT)).trans hB9
      have hw10 := hw9.trans (hb10.mono (Nat.le_trans hw5.size (Nat.le_refl _)))
      have t0 := below_cell (Below.refl _ w10) hT10 0 rfl
      have t1 := below_cell (Below.refl _ w10) hT10 1 rfl
      have t2 := below_cell (Below.refl _ w10) hT10 2 rfl
      have g1 := block_frozen hT10 1
      clear hT9 hB9 hC9 hw9 hown9 hbr c0
      go_upto_region 19 with fail
      have hown11 := ownsRow_setCell_below hown10 (a := ⟨w3.heap.size, 1, none⟩) hzT (.slice na (0 + 1) nc)
      have hT11 := block_set hT10 1 (.slice na (0 + 1) nc)
      rw [show ((#[Value.slice a m cap, .slice none 0 0, .int .i64 (left)] : Array Value).setIfInBounds 1 (.slice na (0 + 1) nc)) = #[.slice a m cap, .slice na (0 + 1) nc, .int .i64 (left)] from rfl] at hT11
      have hw11 := hw10.setCell (p := ⟨w3.heap.size, 1, none⟩) hz3 (.slice na (0 + 1) nc)
      have hB11 := (Below.heap_setCell w10 ⟨w3.heap.size, 1, none⟩ (.slice na (0 + 1) nc) (w.heap.size + 2) (Nat.ne_of_lt hzB)).trans hB10
      obtain ⟨w11, hW11⟩ : ∃ w11, w10.setCell ⟨w3.heap.size, 1, none⟩ (.slice na (0 + 1) nc) = w11 := ⟨_, rfl⟩
      rw [hW11] at hown11 hT11 hw11 hB11 ⊢
      clear hW11 hown10 hT10 hw10 hB10 t0 t1 t2 g1 hb10
      have t0 := below_cell (Below.refl _ w11) hT11 0 rfl
      have t1 := below_cell (Below.refl _ w11) hT11 1 rfl
      have t2 := below_cell (Below.refl _ w11) hT11 2 rfl
      have e0 := below_cell (Below.refl _ w11) hB11 0 rfl
      have e1 := below_cell (Below.refl _ w11) hB11 1 rfl
      have e2 := below_cell (Below.refl _ w11) hB11 2 rfl
      have f0 := block_frozen hB11 0
      have f1 := block_frozen hB11 1
      have f2 := block_frozen hB11 2
      have hset := set3_block hB11 (.slice a m cap) (.slice na (0 + 1) nc) (.int .i64 (left))
      have hw12 := set3_below hw11 (show w.heap.size ≤ w.heap.size + 2 by omega) (.slice a m cap) (.slice na (0 + 1) nc) (.int .i64 (left))
      have hown12 := ownsRow_setCell_below (ownsRow_setCell_below (ownsRow_setCell_below hown11 (a := ⟨w.heap.size + 2, 0, none⟩) (Nat.lt_trans hzB hzT) (.slice a m cap)) (a := ⟨w.heap.size + 2, 1, none⟩) (Nat.lt_trans hzB hzT) (.slice na (0 + 1) nc)) (a := ⟨w.heap.size + 2, 2, none⟩) (Nat.lt_trans hzB hzT) (.int .i64 (left))
      have hnb : ∀ y ∈ d.pend ++ [(⟨s, X⟩ : Wrt)], y.bounded := by
        intro y hy
        rcases List.mem_append.1 hy with hy | hy
        · exact HPB.out y hy
        · rw [List.mem_singleton.1 hy]
          have := HS.out
          exact ⟨⟨by show _ ≤ s; omega, by show s ≤ _; omega⟩, by show X.size ≤ _; omega⟩
      have hown13 : (set3 w11 (w.heap.size + 2) (.slice a m cap) (.slice na (0 + 1) nc) (.int .i64 (left))).ownsRow w5.heap.size 46 2 (.slice na (0 + 1) nc) (0 + 1) (wcells (d.pend ++ [⟨s, X⟩])) := by
        rw [wcells_append]
        first | exact hown12 | (rw [hwn]; exact hown12)
      have hfin := own_wrts hown13 hnb
      have HSET := Lib.hid hset; have HW7 := Lib.hid hw12; have HF := Lib.hid hfin
      clear hset hw12 hown12 hown13 hown11 hT11 hB11 hw11 hnb hfin
      unfold set3 at HSET HW7 HF
      go_wp2_with fail
      refine bodyPost_ret (results_row_tmp rfl _ _ (w.heap.size + 2) _ _ _ _ rfl HSET.out Tryz.underlying27 rfl (by kernel_rfl)) rfl ⟨.agg #[.slice a m cap, .slice na (0 + 1) nc, .int .i64 (left)], by first | (simp; rfl) | (simp; done), ?_, HW7.out⟩
      rw [hsp]
      refine ⟨_, _, rfl, HSA.out.below HW7.out, ?_⟩
      show IsWrts _ _ (d.pend ++ [⟨s, trimS x⟩])
      rw [HX.out]
      exact HF.out
    · have HSRC := Lib.hid hsrc
      clear HKEY hsrc
      go_wp2_with (first | (at_builtin; go_must (refine wpList_extend _ _ 23 46 (wcells d.pend) hnil hb55 (Nat.le_refl _) Tryz.underlying23 hi hz0 hz1 hz2 rfl (by decide) rfl rfl rfl rfl (.inr ⟨_, rfl, HSRC.out⟩) HWL.out h1c ?c2 ?_)))
      case c2 => omega
      intro v8 w8 hown8 hb8
      obtain ⟨pa, pc, rfl⟩ := own_form hown8
      have hT8 := (hb8.block _ (Array.getElem?_eq_some_iff.1 hT5).1).trans hT5
      have hB8 := (hb8.block _ (Array.getElem?_eq_some_iff.1 hB5).1).trans hB5
      have hC8 := (hb8.block _ (Array.getElem?_eq_some_iff.1 hC5).1).trans hC5
      have hw8 := hw5.trans (hb8.mono hw5.size)
      have t1 := below_cell (Below.refl _ w8) hT8 1 rfl
      have g1 := block_frozen hT8 1
      go_upto_region 18 with fail
      have hown9 := ownsRow_setCell_below hown8 (a := ⟨w3.heap.size, 1, none⟩) hzT (.slice pa k pc)
      have hbb9 := hb8.size
      have hT9 := block_set hT8 1 (.slice pa k pc)
      rw [show ((#[Value.slice a m cap, .slice none 0 0, .int .i64 (left)] : Array Value).setIfInBounds 1 (.slice pa k pc)) = #[.slice a m cap, .slice pa k pc, .int .i64 (left)] from rfl] at hT9
      have hw9 := hw8.setCell (p := ⟨w3.heap.size, 1, none⟩) hz3 (.slice pa k pc)
      have hB9 := (Below.heap_setCell w8 ⟨w3.heap.size, 1, none⟩ (.slice pa k pc) (w.heap.size + 2) (Nat.ne_of_lt hzB)).trans hB8
      have hC9 := (Below.heap_setCell w8 ⟨w3.heap.size, 1, none⟩ (.slice pa k pc) (w.heap.size + 1) (by show w.heap.size + 1 ≠ w3.heap.size; omega)).trans hC8
      have hsz9 : w5.heap.size ≤ (w8.setCell ⟨w3.heap.size, 1, none⟩ (.slice pa k pc)).heap.size := by first | (simp; done) | simpa using hb8.size
      obtain ⟨w9, hW9⟩ : ∃ w9, w8.setCell ⟨w3.heap.size, 1, none⟩ (.slice pa k pc) = w9 := ⟨_, rfl⟩
      rw [hW9] at hown9 hT9 hw9 hB9 hC9 hsz9 ⊢
      clear hW9 hown8 hT8 hw8 hB8 hC8 t1 g1 hbb9
      have t0 := below_cell (Below.refl _ w9) hT9 0 rfl
      have t1 := below_cell (Below.refl _ w9) hT9 1 rfl
      have t2 := below_cell (Below.refl _ w9) hT9 2 rfl
      have c0 := below_cell (Below.refl _ w9) hC9 0 rfl
      have hzC := (Array.getElem?_eq_some_iff.1 hT9).1
      have hbr := (Below.refl w5.heap.size w9)
      go_wp2_with (first | (at_builtin; go_must (refine wpList_push _ _ 23 46 hown9 hbr hsz9 Tryz.underlying23 hi hz0 hz1 hz2 rfl (by decide) rfl rfl rfl rfl rfl ?c3 ?c4 ?_)))
      case c3 =>
        intro u hu
        simp only [List.mem_cons, List.not_mem_nil, or_false] at hu
        rcases hu with rfl | rfl <;> rfl
      case c4 => omega
      intro pw w10 hown10 hb10
      obtain ⟨na, nc, rfl⟩ := own_form hown10
      have hT10 := (hb10.block _ hzT).trans hT9
      have hB10 := (hb10.block _ (Nat.lt_trans hzB hzT)).trans hB9
      have hw10 := hw9.trans (hb10.mono (Nat.le_trans hw5.size (Nat.le_refl _)))
      have t0 := below_cell (Below.refl _ w10) hT10 0 rfl
      have t1 := below_cell (Below.refl _ w10) hT10 1 rfl
      have t2 := below_cell (Below.refl _ w10) hT10 2 rfl
      have g1 := block_frozen hT10 1
      clear hT9 hB9 hC9 hw9 hown9 hbr c0
      go_upto_region 19 with fail
      have hown11 := ownsRow_setCell_below hown10 (a := ⟨w3.heap.size, 1, none⟩) hzT (.slice na (k + 1) nc)
      have hT11 := block_set hT10 1 (.slice na (k + 1) nc)
      rw [show ((#[Value.slice a m cap, .slice pa k pc, .int .i64 (left)] : Array Value).setIfInBounds 1 (.slice na (k + 1) nc)) = #[.slice a m cap, .slice na (k + 1) nc, .int .i64 (left)] from rfl] at hT11
      have hw11 := hw10.setCell (p := ⟨w3.heap.size, 1, none⟩) hz3 (.slice na (k + 1) nc)
      have hB11 := (Below.heap_setCell w10 ⟨w3.heap.size, 1, none⟩ (.slice na (k + 1) nc) (w.heap.size + 2) (Nat.ne_of_lt hzB)).trans hB10
      obtain ⟨w11, hW11⟩ : ∃ w11, w10.setCell ⟨w3.heap.size, 1, none⟩ (.slice na (k + 1) nc) = w11 := ⟨_, rfl⟩
      rw [hW11] at hown11 hT11 hw11 hB11 ⊢
      clear hW11 hown10 hT10 hw10 hB10 t0 t1 t2 g1 hb10
      have t0 := below_cell (Below.refl _ w11) hT11 0 rfl
      have t1 := below_cell (Below.refl _ w11) hT11 1 rfl
      have t2 := below_cell (Below.refl _ w11) hT11 2 rfl
      have e0 := below_cell (Below.refl _ w11) hB11 0 rfl
      have e1 := below_cell (Below.refl _ w11) hB11 1 rfl
      have e2 := below_cell (Below.refl _ w11) hB11 2 rfl
      have f0 := block_frozen hB11 0
      have f1 := block_frozen hB11 1
      have f2 := block_frozen hB11 2
      have hset := set3_block hB11 (.slice a m cap) (.slice na (k + 1) nc) (.int .i64 (left))
      have hw12 := set3_below hw11 (show w.heap.size ≤ w.heap.size + 2 by omega) (.slice a m cap) (.slice na (k + 1) nc) (.int .i64 (left))
      have hown12 := ownsRow_setCell_below (ownsRow_setCell_below (ownsRow_setCell_below hown11 (a := ⟨w.heap.size + 2, 0, none⟩) (Nat.lt_trans hzB hzT) (.slice a m cap)) (a := ⟨w.heap.size + 2, 1, none⟩) (Nat.lt_trans hzB hzT) (.slice na (k + 1) nc)) (a := ⟨w.heap.size + 2, 2, none⟩) (Nat.lt_trans hzB hzT) (.int .i64 (left))
      have hnb : ∀ y ∈ d.pend ++ [(⟨s, X⟩ : Wrt)], y.bounded := by
        intro y hy
        rcases List.mem_append.1 hy with hy | hy
        · exact HPB.out y hy
        · rw [List.mem_singleton.1 hy]
          have := HS.out
          exact ⟨⟨by show _ ≤ s; omega, by show s ≤ _; omega⟩, by show X.size ≤ _; omega⟩
      have hown13 : (set3 w11 (w.heap.size + 2) (.slice a m cap) (.slice na (k + 1) nc) (.int .i64 (left))).ownsRow w5.heap.size 46 2 (.slice na (k + 1) nc) (k + 1) (wcells (d.pend ++ [⟨s, X⟩])) := by
        rw [wcells_append]
        first | exact hown12 | (rw [hwn]; exact hown12)
      have hfin := own_wrts hown13 hnb
      have HSET := Lib.hid hset; have HW7 := Lib.hid hw12; have HF := Lib.hid hfin
      clear hset hw12 hown12 hown13 hown11 hT11 hB11 hw11 hnb hfin
      unfold set3 at HSET HW7 HF
      go_wp2_with fail
      refine bodyPost_ret (results_row_tmp rfl _ _ (w.heap.size + 2) _ _ _ _ rfl HSET.out Tryz.underlying27 rfl (by kernel_rfl)) rfl ⟨.agg #[.slice a m cap, .slice na (k + 1) nc, .int .i64 (left)], by first | (simp; rfl) | (simp; done), ?_, HW7.out⟩
      rw [hsp]
      refine ⟨_, _, rfl, HSA.out.below HW7.out, ?_⟩
      show IsWrts _ _ (d.pend ++ [⟨s, trimS x⟩])
      rw [HX.out]
      exact HF.out
end SRefDo
section SDiskAny
open Go.RowKit
set_option linter.unusedVariables false

structure Outc where
  dsk : Dsk
  left : Int
  code : Int
def wrO (d : Dsk) (left s : Int) (x : ByteArray) : Outc :=
  if readyE d left ≠ 0 then ⟨d, left, readyE d left⟩
  else if ¬ (0 ≤ s ∧ s < d.secs.length) then ⟨d, left, 20⟩
  else if 512 < (trimS x).size then ⟨d, left, 2⟩
  else ⟨writeD d s x, spentI left, 0⟩
def flO (d : Dsk) (left : Int) : Outc := if readyE d left ≠ 0 then ⟨d, left, readyE d left⟩ else ⟨flushD d, spentI left, 0⟩
def OutPost (o : Outc) (w : World) (e : Ending) (w' : World) : Prop := ∃ v', e = .returned (.tuple #[v', .int .i64 o.code]) ∧ IsPower w' v' o.dsk o.left ∧ Below w.heap.size w w'
theorem ready_zero {d : Dsk} {left : Int} (h : ¬ readyE d left ≠ 0) : left ≠ 0 ∧ rightD d = true := by
  unfold readyE at h
  by_cases h0 : left = 0
  · rw [if_pos h0] at h; exact absurd (by decide) h
  · rw [if_neg h0] at h
    by_cases hr : rightD d = true
    · exact ⟨h0, hr⟩
    · rw [if_neg hr] at h; exact absurd (by decide) h
theorem ready_is (d : Dsk) (left : Int) : readyE d left = 0 ∨ readyE d left = 1 ∨ readyE d left = 21 := by
  unfold readyE
  by_cases h0 : left = 0
  · rw [if_pos h0]; exact .inr (.inr rfl)
  · rw [if_neg h0]
    by_cases hr : rightD d = true
    · rw [if_pos hr]; exact .inl rfl
    · rw [if_neg hr]; exact .inr (.inl rfl)
theorem diskWrite_any (v : Value) (d : Dsk) (left s : Int) (x : ByteArray) (w : World) (h : IsPower w v d left) (hlo : -9223372036854775808 ≤ left) (hhi : left ≤ 9223372036854775807)
    (hxs : x.size ≤ 9223372036854775807) (hk4 : d.pend.length ≤ 1000) :
    Calls Tryz.prog 69 #[v, .int .i64 s, .string x] w (OutPost (wrO d left s x) w) := by
  by_cases h1 : readyE d left ≠ 0
  · rw [show wrO d left s x = ⟨d, left, readyE d left⟩ from if_pos h1]
    exact (diskWrite_no v d left s _ x w h hxs (.inl ⟨h1, rfl⟩)).mono fun e w' ⟨he, hb⟩ => ⟨v, he, h.below hb, hb⟩
  · obtain ⟨h0, hr⟩ := ready_zero h1
    have hz : readyE d left = 0 := Decidable.not_not.1 h1
    by_cases h2 : ¬ (0 ≤ s ∧ s < d.secs.length)
    · rw [show wrO d left s x = ⟨d, left, 20⟩ by unfold wrO; rw [if_neg h1, if_pos h2]]
      exact (diskWrite_no v d left s _ x w h hxs (.inr (.inl ⟨hz, h2, rfl⟩))).mono fun e w' ⟨he, hb⟩ => ⟨v, he, h.below hb, hb⟩
    · have h2' := Decidable.not_not.1 h2
      by_cases h3 : 512 < (trimS x).size
      · rw [show wrO d left s x = ⟨d, left, 2⟩ by unfold wrO; rw [if_neg h1, if_neg h2, if_pos h3]]
        exact (diskWrite_no v d left s _ x w h hxs (.inr (.inr ⟨hz, h2', h3, rfl⟩))).mono fun e w' ⟨he, hb⟩ => ⟨v, he, h.below hb, hb⟩
      · rw [show wrO d left s x = ⟨writeD d s x, spentI left, 0⟩ by unfold wrO; rw [if_neg h1, if_neg h2, if_neg h3]]
        exact (diskWrite_ok v d left s x w h h0 hlo hhi hr h2' (Nat.le_of_not_lt h3) hxs hk4).mono fun e w' ⟨v', he, hp, hb⟩ => ⟨v', he, hp, hb⟩
theorem diskFlush_any (v : Value) (d : Dsk) (left : Int) (w : World) (h : IsPower w v d left) (hlo : -9223372036854775808 ≤ left) (hhi : left ≤ 9223372036854775807) (hk4 : d.pend.length ≤ 1000) :
    Calls Tryz.prog 70 #[v] w (OutPost (flO d left) w) := by
  by_cases h1 : readyE d left ≠ 0
  · rw [show flO d left = ⟨d, left, readyE d left⟩ from if_pos h1]
    exact (diskFlush_no v d left w h h1).mono fun e w' ⟨he, hb⟩ => ⟨v, he, h.below hb, hb⟩
  · obtain ⟨h0, hr⟩ := ready_zero h1
    rw [show flO d left = ⟨flushD d, spentI left, 0⟩ from if_neg h1]
    exact (diskFlush_ok v d left w h h0 hlo hhi hr hk4).mono fun e w' ⟨v', he, hp, hb⟩ => ⟨v', he, hp, hb⟩
theorem refDo_any (v : Value) (d : Dsk) (left s : Int) (x : ByteArray) (w : World) (h : IsPower w v d left) (hlo : -9223372036854775808 ≤ left) (hhi : left ≤ 9223372036854775807)
    (hxs : x.size ≤ 9223372036854775807) (hk4 : d.pend.length ≤ 1000) (hs : 0 ≤ s) :
    Calls Tryz.prog 65 #[v, .agg #[.int .i64 s, .string x]] w (OutPost (wrO d left s x) w) := by
  by_cases h1 : readyE d left ≠ 0
  · rw [show wrO d left s x = ⟨d, left, readyE d left⟩ from if_pos h1]
    exact (refDo_no v d left s _ x w h hlo hhi hxs (.inl ⟨h1, rfl⟩)).mono fun e w' ⟨he, hb⟩ => ⟨v, he, h.below hb, hb⟩
  · obtain ⟨h0, hr⟩ := ready_zero h1
    by_cases h2 : ¬ (0 ≤ s ∧ s < d.secs.length)
    · rw [show wrO d left s x = ⟨d, left, 20⟩ by unfold wrO; rw [if_neg h1, if_pos h2]]
      exact (refDo_no v d left s _ x w h hlo hhi hxs (.inr (.inl ⟨h0, hr, by omega, rfl⟩))).mono fun e w' ⟨he, hb⟩ => ⟨v, he, h.below hb, hb⟩
    · have h2' := Decidable.not_not.1 h2
      by_cases h3 : 512 < (trimS x).size
      · rw [show wrO d left s x = ⟨d, left, 2⟩ by unfold wrO; rw [if_neg h1, if_neg h2, if_pos h3]]
        exact (refDo_no v d left s _ x w h hlo hhi hxs (.inr (.inr ⟨h0, hr, h2', h3, rfl⟩))).mono fun e w' ⟨he, hb⟩ => ⟨v, he, h.below hb, hb⟩
      · rw [show wrO d left s x = ⟨writeD d s x, spentI left, 0⟩ by unfold wrO; rw [if_neg h1, if_neg h2, if_neg h3]]
        exact (refDo_write v d left s x w h hlo hhi h0 hr h2' (Nat.le_of_not_lt h3) hxs hk4).mono fun e w' ⟨v', he, hp, hb⟩ => ⟨v', he, hp, hb⟩
theorem refDo_neg (v : Value) (d : Dsk) (left s : Int) (x : ByteArray) (w : World) (h : IsPower w v d left) (hlo : -9223372036854775808 ≤ left) (hhi : left ≤ 9223372036854775807)
    (hxs : x.size ≤ 9223372036854775807) (hs : s < 0) :
    Calls Tryz.prog 65 #[v, .agg #[.int .i64 s, .string x]] w (OutPost (flO d left) w) := by
  by_cases h1 : readyE d left ≠ 0
  · rw [show flO d left = ⟨d, left, readyE d left⟩ from if_pos h1]
    exact (refDo_no v d left s _ x w h hlo hhi hxs (.inl ⟨h1, rfl⟩)).mono fun e w' ⟨he, hb⟩ => ⟨v, he, h.below hb, hb⟩
  · obtain ⟨h0, hr⟩ := ready_zero h1
    rw [show flO d left = ⟨flushD d, spentI left, 0⟩ from if_neg h1]
    exact (refDo_flush v d left s x w h hlo hhi h0 hr hs).mono fun e w' ⟨v', he, hp, hb⟩ => ⟨v', he, hp, hb⟩
/-- what is told where the sector lies ahead of the first -/
theorem wrO_neg (d : Dsk) (left s : Int) (x : ByteArray) (hs : s < 0) : (wrO d left s x).dsk = d ∧ (wrO d left s x).left = left ∧
    ((readyE d left = 0 ∧ (wrO d left s x).code = 20 ∧ (wrO d left 0 x).code ≠ 21 ∧ (wrO d left 0 x).code ≠ 1) ∨ ((wrO d left s x).code = (wrO d left 0 x).code ∧ ((wrO d left s x).code = 21 ∨ (wrO d left s x).code = 1))) := by
  by_cases h1 : readyE d left ≠ 0
  · have e : ∀ t, wrO d left t x = ⟨d, left, readyE d left⟩ := fun t => if_pos h1
    rw [e, e]
    refine ⟨rfl, rfl, .inr ⟨rfl, ?_⟩⟩
    rcases ready_is d left with h | h | h
    · exact absurd h h1
    · exact .inr h
    · exact .inl h
  · have h2 : ¬ (0 ≤ s ∧ s < (d.secs.length : Int)) := by omega
    have e : wrO d left s x = ⟨d, left, 20⟩ := by unfold wrO; rw [if_neg h1, if_pos h2]
    rw [e]
    refine ⟨rfl, rfl, .inl ⟨Decidable.not_not.1 h1, rfl, ?_⟩⟩
    unfold wrO
    rw [if_neg h1]
    split
    · exact ⟨by simp, by simp⟩
    · split
      · exact ⟨by simp, by simp⟩
      · exact ⟨by simp, by simp⟩
theorem spent_in (left : Int) (hlo : -9223372036854775808 ≤ left) (hhi : left ≤ 9223372036854775807) : -9223372036854775808 ≤ spentI left ∧ spentI left ≤ 9223372036854775807 := by
  unfold spentI; split <;> omega
end SDiskAny
end Go.Proofs.YthnmnnlbglpjaaaGreatDoor
