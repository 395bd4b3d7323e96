/- slot.targetsFit. -/
import Derived.Test.YthnmnnlbglpjaaaDoorSlotF
import Derived.Deep.WholeRow
namespace Go.Proofs.YthnmnnlbglpjaaaDoor
open Go.RowKit
set_option linter.unusedVariables false

theorem info256b : (Tryd.prog.info? 80).map (fun i => (i.zero, i.size)) = some (some (.agg (Array.replicate 256 (.bool false))), 256) := by kernel_rfl
/-- which sectors have been seen -/
def seenC (s : List Int) : Array Value := ((List.range 256).map fun (c : Nat) => Value.bool (decide ((c : Int) ∈ s))).toArray
theorem seenC_nil : seenC [] = Array.replicate 256 (.bool false) := by
  apply Array.toList_inj.1
  simp only [seenC, List.not_mem_nil, decide_false, Array.toList_replicate]
  rw [List.eq_replicate_iff]
  refine ⟨by simp only [List.length_map, List.length_range], fun b hb => ?_⟩
  obtain ⟨_, _, rfl⟩ := List.mem_map.1 hb
  rfl
theorem seenC_get (s : List Int) (c : Nat) (h : c < 256) : (seenC s)[c]? = some (.bool (decide ((c : Int) ∈ s))) := by simp [seenC, h]
theorem seenC_set (s : List Int) (c : Nat) (h : c < 256) : (seenC s).setIfInBounds c (.bool true) = seenC (s ++ [(c : Int)]) := by
  apply Array.ext
  · simp [seenC]
  · intro i h1 h2
    have hi : i < 256 := by simpa [seenC] using h2
    rw [Array.getElem_setIfInBounds (by simpa using h1)]
    by_cases e : c = i
    · subst e; simp [seenC]
    · rw [if_neg e]
      have : ¬ ((i : Int) = c) := by omega
      simp [seenC, this]
def okT (l : List Int) : Bool := decide (1 ≤ l.length ∧ l.length ≤ 40 ∧ (∀ t ∈ l, 53 ≤ t ∧ t ≤ 255) ∧ l.Nodup)
theorem okT_bad (l : List Int) (j : Nat) (h : j < l.length) (hb : ¬ (53 ≤ l[j] ∧ l[j] ≤ 255)) : okT l = false := by
  unfold okT
  exact decide_eq_false (fun hh => hb (hh.2.2.1 _ (List.getElem_mem h)))
theorem okT_seen (l : List Int) (j : Nat) (h : j < l.length) (hb : l[j] ∈ l.take j) : okT l = false := by
  unfold okT
  refine decide_eq_false (fun hh => ?_)
  obtain ⟨i, hi, he⟩ := List.mem_iff_getElem.1 hb
  rw [List.length_take] at hi
  rw [List.getElem_take] at he
  exact (List.pairwise_iff_getElem.1 hh.2.2.2) i j (by omega) h (by omega) he
theorem take_nodup (l : List Int) (j : Nat) (h : j < l.length) (hn : (l.take j).Nodup) (hb : ¬ l[j] ∈ l.take j) : (l.take (j + 1)).Nodup := by
  rw [← List.take_append_getElem h, List.nodup_append]
  refine ⟨hn, by simp, fun a ha b hbb => ?_⟩
  simp at hbb
  subst hbb
  exact fun e => hb (e ▸ ha)
set_option maxRecDepth 100000 in
set_option maxHeartbeats 1000000 in
theorem slotTargets_any (v : Value) (l : List Int) (w : World) (hv : Reads1 encI w v l) :
    Calls Tryd.prog 64 #[v] w fun e w' => e = .returned (.bool (okT l)) ∧ Below w.heap.size w w' := by
  obtain ⟨a, len, cap, rfl, hlen, hc1, hc2, hat⟩ := hv
  subst hlen
  have hlI : (l.length : Int) ≤ 9223372036854775807 := by omega
  by_cases h1 : l.length < 1
  · have h1I : (l.length : Int) < 1 := by omega
    have he : okT l = false := by unfold okT; exact decide_eq_false (by omega)
    rw [he]
    clear hat
    generalize l.length = n at *
    go_enter Tryd.func64, Tryd.ntmps64
    go_wp2_with fail
    go_ret
    exact ⟨rfl, Below.refl _ _⟩
  · have h1I : ¬ (l.length : Int) < 1 := by omega
    by_cases h2 : 40 < l.length
    · have h2I : (40 : Int) < l.length := by omega
      have he : okT l = false := by unfold okT; exact decide_eq_false (by omega)
      rw [he]
      clear hat
      generalize l.length = n at *
      go_enter Tryd.func64, Tryd.ntmps64
      go_wp2_with fail
      go_ret
      exact ⟨rfl, Below.refl _ _⟩
    · have h2I : ¬ (40 : Int) < l.length := by omega
      have HAT := Lib.hid hat
      have hz := (zero_of_info info256b).1
      clear hat
      go_enter Tryd.func64, Tryd.ntmps64
      go_wp2_with fail
      have hb0 : Below w.heap.size w (w.alloc (.cells (Array.replicate 256 (.bool false)) 80)) := (Below.refl _ w).alloc (Nat.le_refl _) _
      have hB0 := heap_alloc_new w (.cells (Array.replicate 256 (.bool false)) 80)
      rw [← seenC_nil] at hb0 hB0
      have hlt0 : w.heap.size < (w.alloc (.cells (seenC []) 80)).heap.size := by simp
      generalize hB : w.heap.size = B at *
      rw [← seenC_nil]
      generalize w.alloc (.cells (seenC []) 80) = w1 at *
      clear hz
      go_loopw [16] (fun c wr => ∃ j : Nat, j ≤ l.length ∧ c = .int .i64 j ∧ (∀ t ∈ l.take j, 53 ≤ t ∧ t ≤ 255) ∧ (l.take j).Nodup ∧ wr.heap[B]? = some (.cells (seenC (l.take j)) 80 (0, 0)) ∧ Below B w wr) (fun c _ => l.length - (intOf c).toNat)
      case atStart => exact ⟨0, by omega, rfl, by simp, by simp, hB0, hb0⟩
      case round =>
        clear hB0 hb0 hlt0
        obtain ⟨j, hj, rfl, hin, hnd, hbk, hwr⟩ := hrel
        have HIN := Lib.hid hin; have HND := Lib.hid hnd; have HBK := Lib.hid hbk
        clear hin hnd hbk
        by_cases hlt : j < l.length
        · have hltI : (j : Int) < l.length := by omega
          obtain ⟨b, off, rfl, hb, hat⟩ := HAT.out.resolve_left (by omega)
          have hcell : wr.cell? ⟨b, off + j, none⟩ = some (.int .i64 l[j]) := (hwr.cell (p := ⟨b, off + j, none⟩) hb).trans (hat j hlt)
          have hbad := okT_bad l j hlt
          have hseen := okT_seen l j hlt
          have hnod := take_nodup l j hlt HND.out
          have htk : l.take (j + 1) = l.take j ++ [l[j]] := (List.take_append_getElem hlt).symm
          clear hat
          generalize l[j] = t at *
          by_cases hr : 53 ≤ t ∧ t ≤ 255
          · obtain ⟨hr1, hr2⟩ := hr
            obtain ⟨c, rfl⟩ := Int.eq_ofNat_of_zero_le (show 0 ≤ t by omega)
            have hcz : wr.cell? ⟨B, c, none⟩ = some (.bool (decide ((c : Int) ∈ l.take j))) := by rw [cell_of_row _ _ c _ _ _ HBK.out, seenC_get _ _ (by omega)]
            have hfz := block_frozen HBK.out c
            by_cases hs : (c : Int) ∈ l.take j
            · have HE := Lib.hid (hseen hs)
              rw [decide_eq_true hs] at hcz
              clear hseen hbad hnod htk hs
              go_wp2_with fail
              go_ret
              exact ⟨by rw [HE.out]; rfl, by first | exact hwr | (rw [hB]; exact hwr)⟩
            · rw [decide_eq_false hs] at hcz
              have hset := block_set HBK.out c (.bool true)
              rw [seenC_set _ _ (by omega), ← htk] at hset
              have HSET := Lib.hid hset
              have HNO := Lib.hid (hnod hs)
              have HIN2 := Lib.hid (show ∀ t ∈ l.take (j + 1), 53 ≤ t ∧ t ≤ 255 by
                intro t ht
                rw [htk, List.mem_append, List.mem_singleton] at ht
                rcases ht with ht | rfl
                · exact HIN.out t ht
                · exact ⟨hr1, hr2⟩)
              have hw2 : Below B w (wr.setCell ⟨B, c, none⟩ (.bool true)) := hwr.setCell (p := ⟨B, c, none⟩) (Nat.le_refl _) _
              clear hseen hbad hnod htk hs hset
              go_wp2_with fail
              go_roundw
              case rel => exact ⟨j + 1, by omega, by go_num, HIN2.out, HNO.out, HSET.out, hw2⟩
              case measure => simp [intOf]; omega
          · have HE := Lib.hid (hbad hr)
            clear hbad hseen hnod htk
            by_cases h3 : t < 53
            · go_wp2_with fail
              go_ret
              exact ⟨by rw [HE.out]; rfl, by first | exact hwr | (rw [hB]; exact hwr)⟩
            · have h4 : 256 ≤ t := by omega
              go_wp2_with fail
              go_ret
              exact ⟨by rw [HE.out]; rfl, by first | exact hwr | (rw [hB]; exact hwr)⟩
        · obtain rfl : j = l.length := by omega
          have hok : okT l = true := by
            have e1 := HIN.out; have e2 := HND.out
            rw [List.take_length] at e1 e2
            unfold okT
            exact decide_eq_true ⟨by omega, by omega, e1, e2⟩
          have HOK := Lib.hid hok
          clear hok
          go_wp2_with fail
          go_ret
          exact ⟨by rw [HOK.out]; rfl, by first | exact hwr | (rw [hB]; exact hwr)⟩
end Go.Proofs.YthnmnnlbglpjaaaDoor
