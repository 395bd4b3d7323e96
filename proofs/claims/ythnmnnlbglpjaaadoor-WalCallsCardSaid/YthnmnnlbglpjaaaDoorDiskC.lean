/- A crash. -/
import Derived.Test.YthnmnnlbglpjaaaDoorDiskN
import Derived.Test.YthnmnnlbglpjaaaDoorBools
import Derived.Laws.OwnMore
import Derived.Lib.SliceRun
namespace Go.Proofs.YthnmnnlbglpjaaaDoor
open Go.RowKit
set_option linter.unusedVariables false

theorem own_strs {w : World} {base : Nat} {e : TypeId} {v : Value} {n : Nat} {l : List ByteArray} (h : w.ownsRow base e 1 v n (l.map .string)) (hs : ∀ s ∈ l, s.size ≤ 9223372036854775807) : IsStrs w v l := by
  have hlen : l.length = n := by have := h.1; simpa using this
  have hcells := fun g => h.cells (g := g)
  rcases h.2 with ⟨rfl, h0⟩ | ⟨g, cap, cur, rfl, hb, hg, hnc, hcm, hsz, htk⟩
  · subst h0
    obtain rfl : l = [] := List.length_eq_zero_iff.1 hlen
    exact nilStrs w
  · refine ⟨_, _, _, rfl, hlen, hnc, by unfold maxLen at hcm; omega, hs, .inr ⟨g, 0, rfl, (Array.getElem?_eq_some_iff.1 hg).1, fun i hi => ?_⟩⟩
    have := hcells g rfl i (.string (l.getD i ByteArray.empty)) (by simp [List.getD, show i < l.length by omega])
    rwa [addr_add] at this
/-- the sectors behind the first n writes -/
def crashL (d : Dsk) (keep : List Bool) : Nat → List ByteArray
  | 0 => d.secs
  | n + 1 => if keep.getD n false = true then (crashL d keep n).set (d.pend.getD n wrtZ).sector.toNat (d.pend.getD n wrtZ).bytes else crashL d keep n
theorem crashL_len (d : Dsk) (keep : List Bool) : ∀ n, (crashL d keep n).length = d.secs.length
  | 0 => rfl
  | n + 1 => by rw [crashL]; split <;> simp [crashL_len d keep n]
def crashD (d : Dsk) (keep : List Bool) : Dsk := if rightD d = true then ⟨crashL d keep d.pend.length, []⟩ else noD
def rightE (d : Dsk) : Int := if rightD d = true then 0 else 1

set_option maxRecDepth 100000 in
set_option maxHeartbeats 400000 in
theorem cloneStrs_any (v : Value) (l : List ByteArray) (w : World) (h : IsStrs w v l) (h0 : 0 < l.length) (h1 : l.length ≤ 1000) :
    Calls Tryd.prog 68 #[v] w fun e w' => (∃ g cap, e = .returned (.slice (some ⟨g, 0, none⟩) l.length cap) ∧ w'.ownsRow w.heap.size 9 1 (.slice (some ⟨g, 0, none⟩) l.length cap) l.length (l.map .string)) ∧ Below w.heap.size w w' := by
  obtain ⟨i0, hi, hz0, hz1, hz2⟩ := info_parts infoStr
  have hst := h
  obtain ⟨a, len, cap, rfl, rfl, hc1, hc2, hbs, hat⟩ := h
  obtain ⟨b, off, rfl, hb, hat⟩ := hat.resolve_left (by omega)
  have hb61 := (Below.refl w.heap.size w).alloc (Nat.le_refl _) (.cells #[] 9)
  have hown0 : (w.alloc (.cells #[] 9)).ownsRow w.heap.size 9 1 (.slice (some ⟨w.heap.size, 0, none⟩) 0 0) 0 [] := World.ownsRow_made w #[] 0 (Nat.le_refl _) (by unfold maxLen; omega) rfl
  have hsrc : ∀ j u, (l.map Value.string)[j]? = some u → (w.alloc (.cells #[] 9)).cell? ((⟨b, off, none⟩ : Addr).add j) = some u := fun j u hj => by
    have hjl : j < l.length := by have := (List.getElem?_eq_some_iff.1 hj).1; simpa using this
    rw [addr_add, hb61.cell (p := ⟨b, off + j, none⟩) hb, hat j hjl, ← hj]
    simp [List.getD, hjl]
  have h1c : ∀ u ∈ l.map Value.string, u.oneCell' = true := by
    intro u hu
    obtain ⟨k, _, rfl⟩ := List.mem_map.1 hu
    rfl
  have heq := fun u => Lib.run_eql_slice_nil (P := Tryd.prog) u 22 9 (some ⟨b, off, none⟩) l.length cap 0 0 Tryd.underlying22
  have HO := Lib.hid hown0; have HS := Lib.hid hsrc
  clear hown0 hsrc hst hbs
  go_enter Tryd.func68, Tryd.ntmps68
  go_wp2_with (first | (at_builtin; go_must (refine wpList_extend _ _ 22 9 (l.map .string) HO.out hb61 (Nat.le_refl _) Tryd.underlying22 hi hz0 hz1 hz2 rfl (by decide) rfl rfl rfl rfl (.inr ⟨_, rfl, HS.out⟩) (by simp) h1c ?c2 ?_)))
  case c2 => omega
  intro v8 w8 hown8 hb8
  go_wp2_with fail
  obtain ⟨g, c, rfl⟩ : ∃ g c, v8 = .slice (some ⟨g, 0, none⟩) l.length c := by
    rcases hown8.2 with ⟨_, h⟩ | ⟨g, c, _, h, _⟩
    · omega
    · exact ⟨g, c, h⟩
  go_ret
  exact ⟨⟨g, c, rfl, hown8⟩, hb8⟩

theorem crashL_bnd (d : Dsk) (keep : List Bool) (h : ∀ x ∈ d.pend, x.bounded) (h2 : ∀ s ∈ d.secs, s.size ≤ 9223372036854775807) : ∀ n, n ≤ d.pend.length → ∀ s ∈ crashL d keep n, s.size ≤ 9223372036854775807
  | 0, _ => h2
  | n + 1, hn => by
    intro s hs
    rw [crashL] at hs
    split at hs
    · rcases List.mem_or_eq_of_mem_set hs with hs | rfl
      · exact crashL_bnd d keep h h2 n (by omega) s hs
      · have hlt : n < d.pend.length := by omega
        have := (h (d.pend[n]) (List.getElem_mem hlt)).2
        rwa [show d.pend.getD n wrtZ = d.pend[n] from by simp [List.getD, hlt]]
    · exact crashL_bnd d keep h h2 n (by omega) s hs
theorem right_pend (d : Dsk) (h : rightD d = true) (i : Nat) (hi : i < d.pend.length) : 0 ≤ (d.pend.getD i wrtZ).sector ∧ (d.pend.getD i wrtZ).sector < d.secs.length := by
  unfold rightD at h
  simp only [Bool.and_eq_true] at h
  have := List.all_eq_true.1 h.2 (d.pend[i]) (List.getElem_mem hi)
  rw [show d.pend.getD i wrtZ = d.pend[i] from by simp [List.getD, hi]]
  unfold Wrt.fits at this
  simp only [Bool.and_eq_true, decide_eq_true_eq] at this
  exact this.1
theorem right_len (d : Dsk) (h : rightD d = true) : 1 ≤ d.secs.length ∧ d.secs.length ≤ 256 := by
  unfold rightD at h
  simp only [Bool.and_eq_true, decide_eq_true_eq] at h
  exact h.1.1

set_option maxRecDepth 100000 in
set_option maxHeartbeats 1000000 in
theorem diskCrash_any (v kv : Value) (d : Dsk) (keep : List Bool) (w : World) (h : IsDisk w v d) (hk : IsBools w kv keep) :
    Calls Tryd.prog 70 #[v, kv] w (DiskPost (rightE d) (crashD d keep) w) := by
  have hd := h
  obtain ⟨sv, pv, rfl, hs, hp⟩ := h
  have HS := Lib.hid hs
  have HR := Lib.hid (fun u hu => diskRight_any (.agg #[sv, pv]) d u hu)
  obtain ⟨a, len, cap, rfl, hlen, hc1, hc2, hbs, hat⟩ := hs
  obtain ⟨a', len', cap', rfl, hlen', hc1', hc2', hbp, hat'⟩ := hp
  obtain ⟨ka, kn, kc, rfl, hkn, hkc1, hkc2, hkat⟩ := hk
  have hlI' : (len' : Int) ≤ 9223372036854775807 := by omega
  have hkI : (kn : Int) ≤ 9223372036854775807 := by omega
  have HA' := Lib.hid hat'; have HBS := Lib.hid hbs; have HBP := Lib.hid hbp; have HD := Lib.hid hd; have HK := Lib.hid hkat
  clear hat hat' hbs hbp hd hkat
  cases hr : rightD d
  · rw [hr] at HR
    have e1 : rightE d = 1 := by unfold rightE; rw [hr]; rfl
    have e2 : crashD d keep = noD := by unfold crashD; rw [hr]; rfl
    rw [e1, e2]
    clear e1 e2 hr
    go_enter Tryd.func70, Tryd.ntmps70
    go_wp2_with fail
    have hb2 : Below w.heap.size w ((w.alloc (.cells #[.slice a len cap, .slice a' len' cap'] 25)).alloc (.cells #[.slice none 0 0, .slice none 0 0] 25)) := ((Below.refl _ w).alloc (Nat.le_refl _) _).alloc (by simp) _
    have hB0 := heap_alloc2_old w (.cells #[.slice a len cap, .slice a' len' cap'] 25) (.cells #[.slice none 0 0, .slice none 0 0] 25)
    have hB1 := heap_alloc2_new w (.cells #[.slice a len cap, .slice a' len' cap'] 25) (.cells #[.slice none 0 0, .slice none 0 0] 25)
    refine (HR.out _ (HD.out.below hb2)).mono ?_
    rintro e w3 ⟨rfl, hb3⟩
    have hC0 : w3.heap[w.heap.size]? = some (.cells #[.slice a len cap, .slice a' len' cap'] 25 (0, 0)) := (hb3.block _ (Array.getElem?_eq_some_iff.1 hB0).1).trans hB0
    have hC1 : w3.heap[w.heap.size + 1]? = some (.cells #[.slice none 0 0, .slice none 0 0] 25 (0, 0)) := (hb3.block _ (Array.getElem?_eq_some_iff.1 hB1).1).trans hB1
    have hw3 := hb2.trans (hb3.mono hb2.size)
    clear hb2 hB0 hB1 hb3
    have q0 : w3.cell? ⟨w.heap.size + 1, 0, none⟩ = some (.slice none 0 0) := by rw [cell_of_row _ _ 0 _ _ _ hC1]; rfl
    have q1 : w3.cell? ⟨w.heap.size + 1, 1, none⟩ = some (.slice none 0 0) := by rw [cell_of_row _ _ 1 _ _ _ hC1]; rfl
    have f0 := block_frozen hC1 0
    have f1 := block_frozen hC1 1
    go_wp2_with fail
    exact bodyPost_ret (results_row_tmp rfl _ _ (w.heap.size + 1) _ _ _ _ rfl (block_set (block_set hC1 0 _) 1 _) Tryd.underlying25 rfl (by kernel_rfl)) rfl
      ⟨_, rfl, ⟨_, _, rfl, nilStrs _, nilWrts _⟩, (hw3.setCell (p := ⟨w.heap.size + 1, 0, none⟩) (by simp) _).setCell (p := ⟨w.heap.size + 1, 1, none⟩) (by simp) _⟩
  · rw [hr] at HR
    have e1 : rightE d = 0 := by unfold rightE; rw [hr]; rfl
    have e2 : crashD d keep = ⟨crashL d keep d.pend.length, []⟩ := by unfold crashD; rw [hr]; rfl
    rw [e1, e2]
    clear e1 e2
    go_enter Tryd.func70, Tryd.ntmps70
    go_wp2_with fail
    have hb2 : Below w.heap.size w ((w.alloc (.cells #[.slice a len cap, .slice a' len' cap'] 25)).alloc (.cells #[.slice none 0 0, .slice none 0 0] 25)) := ((Below.refl _ w).alloc (Nat.le_refl _) _).alloc (by simp) _
    have hB0 := heap_alloc2_old w (.cells #[.slice a len cap, .slice a' len' cap'] 25) (.cells #[.slice none 0 0, .slice none 0 0] 25)
    have hB1 := heap_alloc2_new w (.cells #[.slice a len cap, .slice a' len' cap'] 25) (.cells #[.slice none 0 0, .slice none 0 0] 25)
    refine (HR.out _ (HD.out.below hb2)).mono ?_
    rintro e w3 ⟨rfl, hb3⟩
    have hC0 : w3.heap[w.heap.size]? = some (.cells #[.slice a len cap, .slice a' len' cap'] 25 (0, 0)) := (hb3.block _ (Array.getElem?_eq_some_iff.1 hB0).1).trans hB0
    have hC1 : w3.heap[w.heap.size + 1]? = some (.cells #[.slice none 0 0, .slice none 0 0] 25 (0, 0)) := (hb3.block _ (Array.getElem?_eq_some_iff.1 hB1).1).trans hB1
    have hw3 := hb2.trans (hb3.mono hb2.size)
    clear hb2 hB0 hB1 hb3
    have hl := right_len d hr
    have q0 : w3.cell? ⟨w.heap.size, 0, none⟩ = some (.slice a len cap) := by rw [cell_of_row _ _ 0 _ _ _ hC0]; rfl
    have hS3 := HS.out.below hw3
    rw [← hlen] at hS3
    go_wp2_with fail
    rw [← hlen]
    refine (cloneStrs_any _ d.secs w3 hS3 (by omega) (by omega)).mono ?_
    rintro e w4 ⟨⟨g, c, rfl, hown⟩, hb4⟩
    have q1 : w4.cell? ⟨w.heap.size, 1, none⟩ = some (.slice a' len' cap') := (hb4.cell (p := ⟨w.heap.size, 1, none⟩) (Array.getElem?_eq_some_iff.1 hC0).1).trans (by rw [cell_of_row _ _ 1 _ _ _ hC0]; rfl)
    have HO := Lib.hid hown
    have hB1lt := (Array.getElem?_eq_some_iff.1 hC1).1
    have HC1 := Lib.hid hC1
    have HRT := Lib.hid hr
    clear hS3 q0 hC0 hC1 hown hr
    go_wp2_with fail
    go_loopw [19] (fun z wr => ∃ k : Nat, k ≤ len' ∧ z = .int .i64 k ∧ wr.ownsRow w3.heap.size 9 1 (.slice (some ⟨g, 0, none⟩) d.secs.length c) d.secs.length ((crashL d keep k).map .string) ∧ Below w3.heap.size w3 wr) (fun z _ => len' - (intOf z).toNat)
    case atStart => exact ⟨0, by omega, rfl, HO.out, hb4⟩
    case round =>
      obtain ⟨k, hk, rfl, hown, hbel⟩ := hrel
      have hbw : Below w.heap.size w wr := hw3.trans (hbel.mono hw3.size)
      by_cases hlt : k < len'
      · have hkl : (k : Int) < len' := by omega
        obtain ⟨b', off', rfl, hb', hat'⟩ := HA'.out.resolve_left (by omega)
        obtain ⟨hx0, hx1⟩ := (hat' k hlt).below hbw hb'
        obtain ⟨hr0, hr1⟩ := right_pend d HRT.out k (by omega)
        have hsn : crashL d keep (k + 1) = if keep.getD k false = true then (crashL d keep k).set (d.pend.getD k wrtZ).sector.toNat (d.pend.getD k wrtZ).bytes else crashL d keep k := rfl
        have hcl := crashL_len d keep k
        have HSN := Lib.hid hsn
        clear hat' hsn
        generalize d.pend.getD k wrtZ = X at *
        obtain ⟨xs, xb⟩ := X
        simp only at hx0 hx1 hr0 hr1 HSN
        obtain ⟨S, rfl⟩ := Int.eq_ofNat_of_zero_le hr0
        have hS : S < d.secs.length := by omega
        have hSI : (S : Int) < d.secs.length := by omega
        by_cases hkk : k < kn
        · have hkkI : (k : Int) < kn := by omega
          obtain ⟨kb, ko, rfl, hkb, hkc⟩ := HK.out.resolve_left (by omega)
          have hkl2 : k < keep.length := by omega
          have hkcell := (hbw.cell (p := ⟨kb, ko + k, none⟩) hkb).trans (hkc k hkl2)
          have hkcell2 := fun o : Obj => (World.cell?_of_block (a := ⟨kb, ko + k, none⟩) (Below.heap_alloc wr o kb (Nat.lt_of_lt_of_le hkb hbw.size))).trans hkcell
          clear hkcell
          have hgd : keep.getD k false = keep[k] := by simp [List.getD, hkl2]
          rw [hgd] at HSN
          generalize keep[k] = B at *
          clear hkc hgd hkl2
          cases B
          · have hbx : Below w3.heap.size w3 (wr.alloc (.cells #[.int .i64 (S : Int), .string xb] 55)) := hbel.alloc hbel.size _
            have HOW := Lib.hid (hown.alloc (.cells #[.int .i64 (S : Int), .string xb] 55))
            clear hown hbel hbw
            go_wp2_with fail
            go_roundw
            case rel => exact ⟨k + 1, by omega, by go_num, by rw [HSN.out]; exact HOW.out, hbx⟩
            case measure => simp [intOf]; omega
          · have hoa := hown.alloc (.cells #[.int .i64 (S : Int), .string xb] 55)
            have hbx : Below w3.heap.size w3 (wr.alloc (.cells #[.int .i64 (S : Int), .string xb] 55)) := hbel.alloc hbel.size _
            have hcell : (wr.alloc (.cells #[.int .i64 (S : Int), .string xb] 55)).cell? ⟨g, S, none⟩ = some (.string ((crashL d keep k)[S]'(by omega))) := by
              rw [hoa.cellAt S (by omega)]
              simp [show S < (crashL d keep k).length by omega]
            have hfz := hoa.frozenAt S
            obtain ⟨hst, _⟩ := hoa.stored S (.string xb)
            have hgb : w3.heap.size ≤ g := (hown.lt g rfl).1
            have hbs := hbx.setCell (p := ⟨g, S, none⟩) hgb (.string xb)
            have HST := Lib.hid hst; have HBX := Lib.hid hbs
            clear hown hbel hbw hoa hst hbx hbs
            go_wp2_with fail
            go_roundw
            case rel => exact ⟨k + 1, by omega, by go_num, by rw [HSN.out, if_pos rfl, Int.toNat_natCast, List.map_set]; exact HST.out, HBX.out⟩
            case measure => simp [intOf]; omega
        · have hkkI : (kn : Int) ≤ k := by omega
          have hgd : keep.getD k false = false := by rw [List.getD, List.getElem?_eq_none (by omega)]; rfl
          rw [hgd] at HSN
          have hbx : Below w3.heap.size w3 (wr.alloc (.cells #[.int .i64 (S : Int), .string xb] 55)) := hbel.alloc hbel.size _
          have HOW := Lib.hid (hown.alloc (.cells #[.int .i64 (S : Int), .string xb] 55))
          clear hown hbel hbw hgd
          go_wp2_with fail
          go_roundw
          case rel => exact ⟨k + 1, by omega, by go_num, by rw [HSN.out]; exact HOW.out, hbx⟩
          case measure => simp [intOf]; omega
      · obtain rfl : k = len' := by omega
        have hC2 : wr.heap[w.heap.size + 1]? = some (.cells #[.slice none 0 0, .slice none 0 0] 25 (0, 0)) := (hbel.block _ hB1lt).trans HC1.out
        have z0 : wr.cell? ⟨w.heap.size + 1, 0, none⟩ = some (.slice none 0 0) := by rw [cell_of_row _ _ 0 _ _ _ hC2]; rfl
        have z1 : wr.cell? ⟨w.heap.size + 1, 1, none⟩ = some (.slice none 0 0) := by rw [cell_of_row _ _ 1 _ _ _ hC2]; rfl
        have f0 := block_frozen hC2 0
        have f1 := block_frozen hC2 1
        have HOW := Lib.hid hown
        clear hown hlt
        have hbd : ∀ s ∈ crashL d keep d.pend.length, s.size ≤ 9223372036854775807 := crashL_bnd d keep HBP.out HBS.out _ (Nat.le_refl _)
        have HBD := Lib.hid hbd
        clear hbd
        go_wp2_with fail
        refine bodyPost_ret (results_row_tmp rfl _ _ (w.heap.size + 1) _ _ _ _ rfl (block_set (block_set hC2 0 _) 1 _) Tryd.underlying25 rfl (by kernel_rfl)) rfl
          ⟨_, rfl, ⟨_, _, rfl, ?_, nilWrts _⟩, (hbw.setCell (p := ⟨w.heap.size + 1, 0, none⟩) (by simp) _).setCell (p := ⟨w.heap.size + 1, 1, none⟩) (by simp) _⟩
        have h1 := ownsRow_setCell_below (ownsRow_setCell_below HOW.out (a := ⟨w.heap.size + 1, 0, none⟩) hB1lt (.slice (some ⟨g, 0, none⟩) d.secs.length c)) (a := ⟨w.heap.size + 1, 1, none⟩) hB1lt (.slice none 0 0)
        rw [hlen] at h1
        rw [hlen'] at HBD
        have h2 := own_strs h1 HBD.out
        simpa [hlen'] using h2
end Go.Proofs.YthnmnnlbglpjaaaDoor
