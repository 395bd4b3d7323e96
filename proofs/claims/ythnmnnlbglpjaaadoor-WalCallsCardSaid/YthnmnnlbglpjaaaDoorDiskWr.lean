/- A write. -/
import Derived.Test.YthnmnnlbglpjaaaDoorDiskW
import Derived.Test.YthnmnnlbglpjaaaDoorWcells
import Derived.Test.YthnmnnlbglpjaaaDoorRef03C
import Derived.Test.YthnmnnlbglpjaaaDoorTrimTwice
import Derived.Deep.RegionWith
namespace Go.Proofs.YthnmnnlbglpjaaaDoor
open Go.RowKit
set_option linter.unusedVariables false

set_option maxRecDepth 100000 in
set_option maxHeartbeats 400000 in
theorem cloneWrts_any (v : Value) (l : List Wrt) (w : World) (h : IsWrts w v l) (h1 : l.length ≤ 1000) :
    Calls Tryd.prog 50 #[v] w fun e w' => (∃ v', e = .returned v' ∧ w'.ownsRow w.heap.size 55 2 v' l.length (wcells l)) ∧ Below w.heap.size w w' := by
  obtain ⟨i0, hi, hz0, hz1, hz2⟩ := info_parts infoWrt
  obtain ⟨a, len, cap, rfl, rfl, hc1, hc2, hbs, hat⟩ := h
  have heq := fun u => Lib.run_eql_slice_nil (P := Tryd.prog) u 23 55 a l.length cap 0 0 Tryd.underlying23
  cases a with
  | none =>
    obtain rfl : l = [] := by
      rcases hat with h | ⟨b, off, h, _⟩
      · exact List.length_eq_zero_iff.1 h
      · cases h
    have heq0 := fun u => Lib.run_eql_slice_nil (P := Tryd.prog) u 23 55 none 0 cap 0 0 Tryd.underlying23
    clear heq
    rw [List.length_nil]
    go_enter Tryd.func50, Tryd.ntmps50
    go_wp2_with fail
    go_ret
    exact ⟨⟨_, rfl, World.ownsRow_nil _ _ _ _⟩, Below.refl _ _⟩
  | some ad =>
    have hb61 := (Below.refl w.heap.size w).alloc (Nat.le_refl _) (.cells #[] 55)
    have hown0 : (w.alloc (.cells #[] 55)).ownsRow w.heap.size 55 2 (.slice (some ⟨w.heap.size, 0, none⟩) 0 0) 0 [] := World.ownsRow_made w #[] 0 (Nat.le_refl _) (by unfold maxLen; omega) rfl
    have hsrc : ∀ j u, (wcells l)[j]? = some u → (w.alloc (.cells #[] 55)).cell? (ad.add j) = some u := fun j u hj => by
      obtain ⟨i, hil, hh⟩ := wcells_at l j u hj
      obtain ⟨b, off, e, hb, hcc⟩ := hat.resolve_left (by omega)
      cases e
      obtain ⟨c0, c1⟩ := (hcc i hil).below hb61 hb
      rw [addr_add]
      rcases hh with ⟨rfl, rfl⟩ | ⟨rfl, rfl⟩
      · exact c0
      · exact c1
    have h1c := wcells_one l
    have hwl : (wcells l).length = l.length * 2 := wcells_len l
    have HO := Lib.hid hown0; have HS := Lib.hid hsrc; have HWL := Lib.hid hwl
    clear hown0 hsrc hbs hat hwl
    go_enter Tryd.func50, Tryd.ntmps50
    go_wp2_with (first | (at_builtin; go_must (refine wpList_extend _ _ 23 55 (wcells l) HO.out hb61 (Nat.le_refl _) Tryd.underlying23 hi hz0 hz1 hz2 rfl (by decide) rfl rfl rfl rfl (.inr ⟨_, rfl, HS.out⟩) HWL.out h1c ?c2 ?_)))
    case c2 => omega
    intro v8 w8 hown8 hb8
    go_wp2_with fail
    go_ret
    exact ⟨⟨_, rfl, hown8⟩, hb8⟩
def IsPower (w : World) (v : Value) (d : Dsk) (left : Int) : Prop := ∃ sv pv, v = .agg #[sv, pv, .int .i64 left] ∧ IsStrs w sv d.secs ∧ IsWrts w pv d.pend
def spentI (left : Int) : Int := if 0 < left then left - 1 else left
theorem diskSpent_any (left : Int) (w : World) (hl : -9223372036854775808 ≤ left) (hl2 : left ≤ 9223372036854775807) : Calls Tryd.prog 69 #[.int .i64 left] w fun e w' => e = .returned (.int .i64 (spentI left)) ∧ w = w' := by
  by_cases h : 0 < left
  · have e : spentI left = left - 1 := if_pos h
    rw [e]
    go_enter Tryd.func69, Tryd.ntmps69
    go_wp2_with fail
    go_ret
    exact ⟨rfl, rfl⟩
  · have e : spentI left = left := if_neg h
    rw [e]
    go_enter Tryd.func69, Tryd.ntmps69
    go_wp2_with fail
    go_ret
    exact ⟨rfl, rfl⟩
set_option maxRecDepth 100000 in
theorem diskReady_ok (v : Value) (d : Dsk) (left : Int) (w : World) (h : IsPower w v d left) (h0 : left ≠ 0) (hr : rightD d = true) :
    Calls Tryd.prog 67 #[v] w fun e w' => e = .returned (.int .i64 0) ∧ Below w.heap.size w w' := by
  obtain ⟨sv, pv, rfl, hs, hp⟩ := h
  have hd : IsDisk w (.agg #[sv, pv]) d := ⟨_, _, rfl, hs, hp⟩
  obtain ⟨a, cap, a', cap', hv, hc1, hc2, hc1', hc2'⟩ := hd.form
  injection hv with hv
  obtain rfl : sv = .slice a d.secs.length cap := by have := congrArg (fun z : Array Value => z[0]?) hv; simpa using this
  obtain rfl : pv = .slice a' d.pend.length cap' := by have := congrArg (fun z : Array Value => z[1]?) hv; simpa using this
  have HR := Lib.hid (fun u hu => diskRight_any (.agg #[.slice a d.secs.length cap, .slice a' d.pend.length cap']) d u hu)
  rw [hr] at HR
  have HD := Lib.hid hd
  generalize d.secs.length = m at *
  generalize d.pend.length = k at *
  clear hs hp hd hv hr
  go_enter Tryd.func67, Tryd.ntmps67
  go_wp2_with fail
  have hb1 := (Below.refl w.heap.size w).alloc (Nat.le_refl _) (.cells #[.slice a m cap, .slice a' k cap', .int .i64 left] 27)
  refine (HR.out _ (HD.out.below hb1)).mono ?_
  rintro e w2 ⟨rfl, hb2⟩
  have hw2 := hb1.trans (hb2.mono hb1.size)
  clear hb1 hb2
  go_wp2_with fail
  go_ret
  exact ⟨rfl, hw2⟩
def writeD (d : Dsk) (s : Int) (x : ByteArray) : Dsk := ⟨d.secs, d.pend ++ [⟨s, trimS x⟩]⟩
set_option maxRecDepth 100000 in
set_option maxHeartbeats 1000000 in
theorem diskWrite_ok (v : Value) (d : Dsk) (left s : Int) (x : ByteArray) (w : World) (h : IsPower w v d left) (h0 : left ≠ 0) (hlo : -9223372036854775808 ≤ left) (hhi : left ≤ 9223372036854775807) (hr : rightD d = true)
    (hs : 0 ≤ s ∧ s < d.secs.length) (hx : (trimS x).size ≤ 512) (hxs : x.size ≤ 9223372036854775807) (hk4 : d.pend.length ≤ 1000) :
    Calls Tryd.prog 52 #[v, .int .i64 s, .string x] w fun e w' => ∃ v', e = .returned (.tuple #[v', .int .i64 0]) ∧ IsPower w' v' (writeD d s x) (spentI left) ∧ Below w.heap.size w w' := by
  obtain ⟨i0, hi, hz0, hz1, hz2⟩ := info_parts infoWrt
  have HRY := Lib.hid (fun u hu => diskReady_ok v d left u hu h0 hr)
  have hrl := right_len d hr
  obtain ⟨sv, pv, rfl, hss, hpp⟩ := h
  have hd : IsDisk w (.agg #[sv, pv]) d := ⟨_, _, rfl, hss, hpp⟩
  obtain ⟨a, cap, a', cap', hv, hc1, hc2, hc1', hc2'⟩ := hd.form
  injection hv with hv
  obtain rfl : sv = .slice a d.secs.length cap := by have := congrArg (fun z : Array Value => z[0]?) hv; simpa using this
  obtain rfl : pv = .slice a' d.pend.length cap' := by have := congrArg (fun z : Array Value => z[1]?) hv; simpa using this
  have HP := Lib.hid (fun u (hb : Below w.heap.size w u) => show IsPower u _ d left from ⟨_, _, rfl, hss.below hb, hpp.below hb⟩)
  have HH := Lib.hid (fun u hu => diskHas_any (.agg #[.slice a d.secs.length cap, .slice a' d.pend.length cap']) d s u hu)
  rw [decide_eq_true hs] at HH
  have HD := Lib.hid hd
  have HCW := Lib.hid (fun u (hb : Below w.heap.size w u) => cloneWrts_any _ d.pend u (hpp.below hb) hk4)
  have HCS := Lib.hid (fun u (hb : Below w.heap.size w u) => cloneStrs_any _ d.secs u (hss.below hb) (by omega) (by omega))
  have HSP := Lib.hid (fun u => diskSpent_any left u hlo hhi)
  have HT := Lib.hid (fun u => leTrim_any x u hxs)
  have HPB := Lib.hid (wrts_bnd hpp); have HSB := Lib.hid (strs_bnd hss)
  generalize hm : d.secs.length = m at *
  generalize hk : d.pend.length = k at *
  generalize hX : trimS x = X at *
  have hxI : (X.size : Int) ≤ 512 := by omega
  have HM := Lib.hid hm; have HK := Lib.hid hk; have HX := Lib.hid hX; have HS := Lib.hid hs
  clear hss hpp hd hv hr hm hk hX h0 hs
  go_enter Tryd.func52, Tryd.ntmps52
  go_wp2_with fail
  have hb2 : Below w.heap.size w ((w.alloc (.cells #[.slice a m cap, .slice a' k cap', .int .i64 left] 27)).alloc (.cells #[.slice none 0 0, .slice none 0 0, .int .i64 0] 27)) := ((Below.refl w.heap.size w).alloc (Nat.le_refl _) _).alloc (by simp) _
  have hA : ((w.alloc (.cells #[.slice a m cap, .slice a' k cap', .int .i64 left] 27)).alloc (.cells #[.slice none 0 0, .slice none 0 0, .int .i64 0] 27)).heap[w.heap.size]? = some (.cells #[.slice a m cap, .slice a' k cap', .int .i64 left] 27 (0, 0)) := (Below.heap_alloc _ _ _ (by simp)).trans (heap_alloc_new w _)
  have hB : ((w.alloc (.cells #[.slice a m cap, .slice a' k cap', .int .i64 left] 27)).alloc (.cells #[.slice none 0 0, .slice none 0 0, .int .i64 0] 27)).heap[w.heap.size + 1]? = some (.cells #[.slice none 0 0, .slice none 0 0, .int .i64 0] 27 (0, 0)) := by
    have := heap_alloc_new (w.alloc (.cells #[.slice a m cap, .slice a' k cap', .int .i64 left] 27)) (.cells #[.slice none 0 0, .slice none 0 0, .int .i64 0] 27)
    rwa [World.size_alloc] at this
  obtain ⟨w2, hW2⟩ : ∃ w2, ((w.alloc (.cells #[.slice a m cap, .slice a' k cap', .int .i64 left] 27)).alloc (.cells #[.slice none 0 0, .slice none 0 0, .int .i64 0] 27)) = w2 := ⟨_, rfl⟩
  rw [hW2] at hb2 hA hB ⊢
  clear hW2
  refine (HRY.out w2 (HP.out _ hb2)).mono ?_
  rintro e w3 ⟨rfl, hb3⟩
  have hA3 := (hb3.block _ (Array.getElem?_eq_some_iff.1 hA).1).trans hA
  have hB3 := (hb3.block _ (Array.getElem?_eq_some_iff.1 hB).1).trans hB
  have hw3 := hb2.trans (hb3.mono hb2.size)
  have x0 := below_cell (Below.refl _ w3) hA3 0 rfl
  have x1 := below_cell (Below.refl _ w3) hA3 1 rfl
  clear hb2 hA hB hb3 HRY
  go_wp2_with fail
  refine (HH.out w3 (HD.out.below hw3)).mono ?_
  rintro e w4 ⟨rfl, hb4⟩
  have hA4 := (hb4.block _ (Array.getElem?_eq_some_iff.1 hA3).1).trans hA3
  have hB4 := (hb4.block _ (Array.getElem?_eq_some_iff.1 hB3).1).trans hB3
  have hw4 := hw3.trans (hb4.mono hw3.size)
  clear hw3 hA3 hB3 hb4 x0 x1 HH
  go_wp2_with fail
  refine (HT.out w4).mono ?_
  rintro e w5 ⟨rfl, rfl⟩
  have x0 := below_cell (Below.refl _ w4) hA4 0 rfl
  have x1 := below_cell (Below.refl _ w4) hA4 1 rfl
  clear HT
  go_wp2_with fail
  refine (HCW.out w4 hw4).mono ?_
  rintro e w5 ⟨⟨pv', rfl, hown⟩, hb5⟩
  have hA5 := (hb5.block _ (Array.getElem?_eq_some_iff.1 hA4).1).trans hA4
  have hB5 := (hb5.block _ (Array.getElem?_eq_some_iff.1 hB4).1).trans hB4
  have hw5 := hw4.trans (hb5.mono hw4.size)
  have hbb := Below.refl w4.heap.size w5
  have hsz5 := hb5.size
  have hlt4 := (Array.getElem?_eq_some_iff.1 hB4).1
  clear hA4 hB4 x0 x1 HCW
  go_wp2_with (first | (at_builtin; go_must (refine wpList_push _ _ 23 55 hown hbb hsz5 Tryd.underlying23 hi hz0 hz1 hz2 rfl (by decide) rfl rfl rfl rfl rfl ?c3 ?c4 ?_)))
  case c3 =>
    intro u hu
    simp only [List.mem_cons, List.not_mem_nil, or_false] at hu
    rcases hu with rfl | rfl <;> rfl
  case c4 => omega
  intro pw w6 hown6 hb6
  obtain ⟨na, nc, rfl⟩ := own_form hown6
  have hA6 := (hb6.block _ (show w.heap.size < w4.heap.size by omega)).trans hA5
  have hB6 := (hb6.block _ (show w.heap.size + 1 < w4.heap.size by omega)).trans hB5
  have hw6 := hw5.trans (hb6.mono hw4.size)
  have hnw : w6.ownsRow w4.heap.size 55 2 (.slice na (k + 1) nc) (k + 1) (wcells (d.pend ++ [⟨s, X⟩])) := by
    rw [wcells_append]; exact hown6
  have hnb : ∀ y ∈ d.pend ++ [(⟨s, X⟩ : Wrt)], y.bounded := by
      intro y hy
      rcases List.mem_append.1 hy with hy | hy
      · exact HPB.out y hy
      · rw [List.mem_singleton.1 hy]
        have := HS.out
        exact ⟨⟨by show _ ≤ s; omega, by show s ≤ _; omega⟩, by show X.size ≤ _; omega⟩
  have x0 := below_cell (Below.refl _ w6) hA6 0 rfl
  have x1 := below_cell (Below.refl _ w6) hA6 1 rfl
  have HNW := Lib.hid hnw; have HNB := Lib.hid hnb
  have hl4 : w.heap.size + 1 < w4.heap.size := hlt4
  have hl6 : w.heap.size + 1 < w6.heap.size := (Array.getElem?_eq_some_iff.1 hB6).1
  clear hnb hown hbb hsz5 hA5 hB5 hb5 hw5 hw4 hlt4 hown6 hb6 hnw
  go_wp2_with fail
  refine (HCS.out w6 hw6).mono ?_
  rintro e w7 ⟨⟨g, gc, rfl, hown7⟩, hb7⟩
  have hA7 := (hb7.block _ (Array.getElem?_eq_some_iff.1 hA6).1).trans hA6
  have hB7 := (hb7.block _ (Array.getElem?_eq_some_iff.1 hB6).1).trans hB6
  have hw7 := hw6.trans (hb7.mono hw6.size)
  have hnw7 := own_keep HNW.out hb7
  have hd8 := (Below.refl _ w7).alloc (Nat.le_refl _) (.cells #[.slice (some ⟨g, 0, none⟩) m gc, .slice na (k + 1) nc] 25)
  have hw8 : Below w.heap.size w (w7.alloc (.cells #[.slice (some ⟨g, 0, none⟩) m gc, .slice na (k + 1) nc] 25)) := hw7.alloc hw7.size _
  have hA8 := (heap_alloc_old w7 (.cells #[.slice (some ⟨g, 0, none⟩) m gc, .slice na (k + 1) nc] 25) (Array.getElem?_eq_some_iff.1 hA7).1).trans hA7
  have hB8 := (heap_alloc_old w7 (.cells #[.slice (some ⟨g, 0, none⟩) m gc, .slice na (k + 1) nc] 25) (Array.getElem?_eq_some_iff.1 hB7).1).trans hB7
  have hC8 := heap_alloc_new w7 (.cells #[.slice (some ⟨g, 0, none⟩) m gc, .slice na (k + 1) nc] 25)
  have HNS := Lib.hid (own_keep hown7 hd8); have HNW8 := Lib.hid (own_keep hnw7 hd8)
  clear hown7 hnw7 hd8 hA6 hB6 hb7 hw6 hA7 hB7 hw7 HNW x0 x1
  go_wp2_with fail
  obtain ⟨w8, hW8⟩ : ∃ w8, w7.alloc (.cells #[.slice (some ⟨g, 0, none⟩) m gc, .slice na (k + 1) nc] 25) = w8 := ⟨_, rfl⟩
  rw [hW8] at hw8 hA8 hB8 hC8 HNS HNW8 ⊢
  clear hW8
  have y0 := below_cell (Below.refl _ w8) hC8 0 rfl
  have y1 := below_cell (Below.refl _ w8) hC8 1 rfl
  have x2 := below_cell (Below.refl _ w8) hA8 2 rfl
  have z0 := below_cell (Below.refl _ w8) hB8 0 rfl
  have z1 := below_cell (Below.refl _ w8) hB8 1 rfl
  have z2 := below_cell (Below.refl _ w8) hB8 2 rfl
  have f0 := block_frozen hB8 0
  have f1 := block_frozen hB8 1
  have f2 := block_frozen hB8 2
  obtain ⟨sl, hsl⟩ : ∃ sl, spentI left = sl := ⟨_, rfl⟩
  rw [hsl] at HSP
  have HSL := Lib.hid hsl
  clear hsl
  have hset := block_set (block_set (block_set hB8 0 (.slice (some ⟨g, 0, none⟩) m gc)) 1 (.slice na (k + 1) nc)) 2 (.int .i64 sl)
  rw [show ((((#[Value.slice none 0 0, .slice none 0 0, .int .i64 0] : Array Value).setIfInBounds 0 (.slice (some ⟨g, 0, none⟩) m gc)).setIfInBounds 1 (.slice na (k + 1) nc)).setIfInBounds 2 (.int .i64 sl)) = #[.slice (some ⟨g, 0, none⟩) m gc, .slice na (k + 1) nc, .int .i64 sl] from rfl] at hset
  have HSET := Lib.hid hset
  clear hset hA8 hB8 hC8
  go_region_with (go_at_call 69; refine (HSP.out _).mono ?_; rintro e w' ⟨rfl, rfl⟩)
  all_goals
    go_wp2_with fail
    refine bodyPost_ret (results_row_tmp rfl _ _ (w.heap.size + 1) _ _ _ _ rfl HSET.out Tryd.underlying27 rfl (by kernel_rfl)) rfl ⟨.agg #[.slice (some ⟨g, 0, none⟩) m gc, .slice na (k + 1) nc, .int .i64 sl], by first | (simp; rfl) | (simp [Act.put]; done), ⟨_, _, by rw [HSL.out], ?_, ?_⟩, ?_⟩
    · exact own_strs (ownsRow_setCell_below (ownsRow_setCell_below (ownsRow_setCell_below HNS.out.drew (a := ⟨w.heap.size + 1, 0, none⟩) hl6 _) (a := ⟨w.heap.size + 1, 1, none⟩) hl6 _) (a := ⟨w.heap.size + 1, 2, none⟩) hl6 _) HSB.out
    · show IsWrts _ _ (d.pend ++ [⟨s, trimS x⟩])
      rw [HX.out]
      exact own_wrts (ownsRow_setCell_below (ownsRow_setCell_below (ownsRow_setCell_below HNW8.out.drew (a := ⟨w.heap.size + 1, 0, none⟩) hl4 _) (a := ⟨w.heap.size + 1, 1, none⟩) hl4 _) (a := ⟨w.heap.size + 1, 2, none⟩) hl4 _) HNB.out
    · exact ((hw8.drew.setCell (p := ⟨w.heap.size + 1, 0, none⟩) (by simp) _).setCell (p := ⟨w.heap.size + 1, 1, none⟩) (by simp) _).setCell (p := ⟨w.heap.size + 1, 2, none⟩) (by simp) _
end Go.Proofs.YthnmnnlbglpjaaaDoor
