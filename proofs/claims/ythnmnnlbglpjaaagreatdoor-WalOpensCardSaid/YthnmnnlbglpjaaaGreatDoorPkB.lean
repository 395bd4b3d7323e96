/- DiskN, DiskC, Back, DiskRd, DiskM, DiskW, Ref03C, Wcells, in one text. -/
import Derived.Test.YthnmnnlbglpjaaaGreatDoorPkA
import Derived.Laws.MakeOwn
import Derived.Laws.OwnMore
import Derived.Lib.SliceRun
import Derived.RangeFuncNested
import Derived.RangeFuncBound
import Derived.RangeFuncBox
import Derived.RangeFuncCalls
import Derived.RangeFuncLeaves
import Derived.Shelf.Abstract
import Derived.Shelf.RegionOpen
import Derived.WalkKit
import Derived.OwnWalkIn
import Derived.TacticsInMore
import Derived.LoopNIn
import Derived.LoopIn
import Derived.Maps.AppendAt
namespace Go.Proofs.YthnmnnlbglpjaaaGreatDoor
section SDiskN
open Go.RowKit
set_option linter.unusedVariables false

theorem infoStr : (Tryz.prog.info? 9).map (fun i => (i.zero, i.size, i.bytes)) = some (some (.string ⟨#[]⟩), 1, 16) := by kernel_rfl
theorem block_strs {w : World} {g : Nat} {t : TypeId} {l : List ByteArray} {cap : Nat} (hc : l.length ≤ cap) (cs : Array Value) (h : w.heap[g]? = some (.cells cs t (0, 0))) (hcs : ∀ i (hi : i < l.length), cs[i]? = some (.string l[i]))
    (hm : cap ≤ 9223372036854775807) (hs : ∀ s ∈ l, s.size ≤ 9223372036854775807) : IsStrs w (.slice (some ⟨g, 0, none⟩) l.length cap) l := by
  refine ⟨_, _, _, rfl, rfl, hc, hm, hs, .inr ⟨g, 0, rfl, (Array.getElem?_eq_some_iff.1 h).1, fun i hi => ?_⟩⟩
  rw [Nat.zero_add, cell_of_row _ _ _ _ _ _ h, hcs i hi]
  simp [List.getD, hi]
theorem nilStrs (w : World) : IsStrs w (.slice none 0 0) [] := ⟨none, 0, 0, rfl, rfl, by omega, by omega, by simp, .inl rfl⟩
def newD (n : Nat) : Dsk := ⟨List.replicate n ⟨#[]⟩, []⟩
def noD : Dsk := ⟨[], []⟩
theorem make_strs (k : Nat) (hk : k ≤ 100000) : ∀ u : World, (Instr.makeSlice 22 (.int .i64 (k : Int)) (.int .i64 (k : Int))).run Tryz.prog u =
      .ok (.slice (some ⟨u.heap.size, 0, none⟩) k k) (u.alloc (.cells (List.replicate k (Value.string ⟨#[]⟩)).toArray 9)) := fun u => by
  obtain ⟨i0, hi, hz0, hz1, hz2⟩ := info_parts infoStr
  have h := run_make (P := Tryz.prog) u 22 9 i0 (.string ⟨#[]⟩) Tryz.underlying22 hi hz0 .i64 .i64 (k : Int) (k : Int) (by omega) (Int.le_refl _) (by rw [hz2]; omega) (by omega)
  have hm : madeCells #[Value.string ⟨#[]⟩] k = (List.replicate k (Value.string ⟨#[]⟩)).toArray := by
    rw [fill_zero (.string ⟨#[]⟩) k, fill]; simp
  simpa [hz1, Value.cells, hm] using h
def DiskPost (E : Int) (d : Dsk) (w : World) (e : Ending) (w' : World) : Prop := ∃ v, e = .returned (.tuple #[v, .int .i64 E]) ∧ IsDisk w' v d ∧ Below w.heap.size w w'
set_option maxRecDepth 100000 in
theorem diskNew_ok (n : Nat) (w : World) (h1 : 1 ≤ n) (h2 : n ≤ 256) : Calls Tryz.prog 49 #[.int .i64 n] w (DiskPost 0 (newD n) w) := by
  have h1I : (1 : Int) ≤ n := by omega
  have h2I : (n : Int) ≤ 256 := by omega
  have hmk := make_strs n (by omega)
  go_enter Tryz.func49, Tryz.ntmps49
  go_wp2_with fail
  refine bodyPost_ret (results_row_tmp rfl _ _ w.heap.size _ _ _ _ rfl (by rw [heap_alloc_old _ _ (by simp)]; exact heap_alloc_new _ _) Tryz.underlying25 rfl (by kernel_rfl)) rfl ⟨_, rfl, ⟨_, _, rfl, ?_, nilWrts _⟩, ((Below.refl _ _).alloc (Nat.le_refl _) _).alloc (by simp) _⟩
  have hb := block_strs (l := (newD n).secs) (w := ((w.alloc (.cells #[.slice (some ⟨w.heap.size + 1, 0, none⟩) n n, .slice none 0 0] 25)).alloc (.cells (Array.replicate n (Value.string ⟨#[]⟩)) 9))) (g := w.heap.size + 1) (t := 9) (cap := n) (by simp [newD]) _
    (by have := heap_alloc_new (w.alloc (.cells #[.slice (some ⟨w.heap.size + 1, 0, none⟩) n n, .slice none 0 0] 25)) (.cells (Array.replicate n (Value.string ⟨#[]⟩)) 9); rwa [World.size_alloc] at this)
    (fun i hi => by simp [newD] at hi ⊢; simp [hi]) (by omega) (fun s hs => by rw [List.eq_of_mem_replicate hs]; show 0 ≤ _; omega)
  rwa [show (newD n).secs.length = n from by simp [newD]] at hb
set_option maxRecDepth 100000 in
theorem diskNew_bad (n : Int) (w : World) (h : ¬ (1 ≤ n ∧ n ≤ 256)) : Calls Tryz.prog 49 #[.int .i64 n] w (DiskPost 1 noD w) := by
  by_cases h1 : 1 ≤ n
  · have h2 : 256 < n := by omega
    clear h
    go_enter Tryz.func49, Tryz.ntmps49
    go_wp2_with fail
    exact bodyPost_ret (results_row_tmp rfl _ _ w.heap.size _ _ _ _ rfl (heap_alloc_new _ _) Tryz.underlying25 rfl (by kernel_rfl)) rfl ⟨_, rfl, ⟨_, _, rfl, nilStrs _, nilWrts _⟩, (Below.refl _ _).alloc (Nat.le_refl _) _⟩
  · have h2 : n < 1 := by omega
    clear h
    go_enter Tryz.func49, Tryz.ntmps49
    go_wp2_with fail
    exact bodyPost_ret (results_row_tmp rfl _ _ w.heap.size _ _ _ _ rfl (heap_alloc_new _ _) Tryz.underlying25 rfl (by kernel_rfl)) rfl ⟨_, rfl, ⟨_, _, rfl, nilStrs _, nilWrts _⟩, (Below.refl _ _).alloc (Nat.le_refl _) _⟩

theorem new_right (n : Nat) (h1 : 1 ≤ n) (h2 : n ≤ 256) : rightD (newD n) = true := by
  unfold rightD newD
  have h0 : fitsB ⟨#[]⟩ = true := decide_eq_true ⟨by show 0 ≤ 512; omega, by decide⟩
  have : (List.replicate n (⟨#[]⟩ : ByteArray)).all fitsB = true := List.all_eq_true.2 (fun x hx => by rw [List.eq_of_mem_replicate hx]; exact h0)
  simp only [List.length_replicate, this, List.all_nil, Bool.and_true]
  exact decide_eq_true ⟨h1, h2⟩
end SDiskN
section SDiskC
open Go.RowKit
set_option linter.unusedVariables false

theorem own_strs {w : World} {base : Nat} {e : TypeId} {v : Value} {n : Nat} {l : List ByteArray} (h : w.ownsRow base e 1 v n (l.map .string)) (hs : ∀ s ∈ l, s.size ≤ 9223372036854775807) : IsStrs w v l := by
  have hlen : l.length = n := by have := h.1; simpa using this
  have hcells := fun g => h.cells (g := g)
  rcases h.2 with ⟨rfl, h0⟩ | ⟨g, cap, cur, rfl, hb, hg, hnc, hcm, hsz, htk⟩
  · subst h0
    obtain rfl : l = [] := List.length_eq_zero_iff.1 hlen
    exact nilStrs w
  · refine ⟨_, _, _, rfl, hlen, hnc, by unfold maxLen at hcm; omega, hs, .inr ⟨g, 0, rfl, (Array.getElem?_eq_some_iff.1 hg).1, fun i hi => ?_⟩⟩
    have := hcells g rfl i (.string (l.getD i ByteArray.empty)) (by simp [List.getD, show i < l.length by omega])
    rwa [addr_add] at this
/-- the sectors behind the first n writes -/
def crashL (d : Dsk) (keep : List Bool) : Nat → List ByteArray
  | 0 => d.secs
  | n + 1 => if keep.getD n false = true then (crashL d keep n).set (d.pend.getD n wrtZ).sector.toNat (d.pend.getD n wrtZ).bytes else crashL d keep n
theorem crashL_len (d : Dsk) (keep : List Bool) : ∀ n, (crashL d keep n).length = d.secs.length
  | 0 => rfl
  | n + 1 => by rw [crashL]; split <;> simp [crashL_len d keep n]
def crashD (d : Dsk) (keep : List Bool) : Dsk := if rightD d = true then ⟨crashL d keep d.pend.length, []⟩ else noD
def rightE (d : Dsk) : Int := if rightD d = true then 0 else 1

set_option maxRecDepth 100000 in
set_option maxHeartbeats 400000 in
theorem cloneStrs_any (v : Value) (l : List ByteArray) (w : World) (h : IsStrs w v l) (h0 : 0 < l.length) (h1 : l.length ≤ 1000) :
    Calls Tryz.prog 83 #[v] w fun e w' => (∃ g cap, e = .returned (.slice (some ⟨g, 0, none⟩) l.length cap) ∧ w'.ownsRow w.heap.size 9 1 (.slice (some ⟨g, 0, none⟩) l.length cap) l.length (l.map .string)) ∧ Below w.heap.size w w' := by
  obtain ⟨i0, hi, hz0, hz1, hz2⟩ := info_parts infoStr
  have hst := h
  obtain ⟨a, len, cap, rfl, rfl, hc1, hc2, hbs, hat⟩ := h
  obtain ⟨b, off, rfl, hb, hat⟩ := hat.resolve_left (by omega)
  have hb61 := (Below.refl w.heap.size w).alloc (Nat.le_refl _) (.cells #[] 9)
  have hown0 : (w.alloc (.cells #[] 9)).ownsRow w.heap.size 9 1 (.slice (some ⟨w.heap.size, 0, none⟩) 0 0) 0 [] := World.ownsRow_made w #[] 0 (Nat.le_refl _) (by unfold maxLen; omega) rfl
  have hsrc : ∀ j u, (l.map Value.string)[j]? = some u → (w.alloc (.cells #[] 9)).cell? ((⟨b, off, none⟩ : Addr).add j) = some u := fun j u hj => by
    have hjl : j < l.length := by have := (List.getElem?_eq_some_iff.1 hj).1; simpa using this
    rw [addr_add, hb61.cell (p := ⟨b, off + j, none⟩) hb, hat j hjl, ← hj]
    simp [List.getD, hjl]
  have h1c : ∀ u ∈ l.map Value.string, u.oneCell' = true := by
    intro u hu
    obtain ⟨k, _, rfl⟩ := List.mem_map.1 hu
    rfl
  have heq := fun u => Lib.run_eql_slice_nil (P := Tryz.prog) u 22 9 (some ⟨b, off, none⟩) l.length cap 0 0 Tryz.underlying22
  have HO := Lib.hid hown0; have HS := Lib.hid hsrc
  clear hown0 hsrc hst hbs
  go_enter Tryz.func83, Tryz.ntmps83
  go_wp2_with (first | (at_builtin; go_must (refine wpList_extend _ _ 22 9 (l.map .string) HO.out hb61 (Nat.le_refl _) Tryz.underlying22 hi hz0 hz1 hz2 rfl (by decide) rfl rfl rfl rfl (.inr ⟨_, rfl, HS.out⟩) (by simp) h1c ?c2 ?_)))
  case c2 => omega
  intro v8 w8 hown8 hb8
  go_wp2_with fail
  obtain ⟨g, c, rfl⟩ : ∃ g c, v8 = .slice (some ⟨g, 0, none⟩) l.length c := by
    rcases hown8.2 with ⟨_, h⟩ | ⟨g, c, _, h, _⟩
    · omega
    · exact ⟨g, c, h⟩
  go_ret
  exact ⟨⟨g, c, rfl, hown8⟩, hb8⟩

theorem crashL_bnd (d : Dsk) (keep : List Bool) (h : ∀ x ∈ d.pend, x.bounded) (h2 : ∀ s ∈ d.secs, s.size ≤ 9223372036854775807) : ∀ n, n ≤ d.pend.length → ∀ s ∈ crashL d keep n, s.size ≤ 9223372036854775807
  | 0, _ => h2
  | n + 1, hn => by
    intro s hs
    rw [crashL] at hs
    split at hs
    · rcases List.mem_or_eq_of_mem_set hs with hs | rfl
      · exact crashL_bnd d keep h h2 n (by omega) s hs
      · have hlt : n < d.pend.length := by omega
        have := (h (d.pend[n]) (List.getElem_mem hlt)).2
        rwa [show d.pend.getD n wrtZ = d.pend[n] from by simp [List.getD, hlt]]
    · exact crashL_bnd d keep h h2 n (by omega) s hs
theorem right_pend (d : Dsk) (h : rightD d = true) (i : Nat) (hi : i < d.pend.length) : 0 ≤ (d.pend.getD i wrtZ).sector ∧ (d.pend.getD i wrtZ).sector < d.secs.length := by
  unfold rightD at h
  simp only [Bool.and_eq_true] at h
  have := List.all_eq_true.1 h.2 (d.pend[i]) (List.getElem_mem hi)
  rw [show d.pend.getD i wrtZ = d.pend[i] from by simp [List.getD, hi]]
  unfold Wrt.fits at this
  simp only [Bool.and_eq_true, decide_eq_true_eq] at this
  exact this.1
theorem right_len (d : Dsk) (h : rightD d = true) : 1 ≤ d.secs.length ∧ d.secs.length ≤ 256 := by
  unfold rightD at h
  simp only [Bool.and_eq_true, decide_eq_true_eq] at h
  exact h.1.1

set_option maxRecDepth 100000 in
set_option maxHeartbeats 1000000 in
theorem diskCrash_any (v kv : Value) (d : Dsk) (keep : List Bool) (w : World) (h : IsDisk w v d) (hk : IsBools w kv keep) :
    Calls Tryz.prog 54 #[v, kv] w (DiskPost (rightE d) (crashD d keep) w) := by
  have hd := h
  obtain ⟨sv, pv, rfl, hs, hp⟩ := h
  have HS := Lib.hid hs
  have HR := Lib.hid (fun u hu => diskRight_any (.agg #[sv, pv]) d u hu)
  obtain ⟨a, len, cap, rfl, hlen, hc1, hc2, hbs, hat⟩ := hs
  obtain ⟨a', len', cap', rfl, hlen', hc1', hc2', hbp, hat'⟩ := hp
  obtain ⟨ka, kn, kc, rfl, hkn, hkc1, hkc2, hkat⟩ := hk
  have hlI' : (len' : Int) ≤ 9223372036854775807 := by omega
  have hkI : (kn : Int) ≤ 9223372036854775807 := by omega
  have HA' := Lib.hid hat'; have HBS := Lib.hid hbs; have HBP := Lib.hid hbp; have HD := Lib.hid hd; have HK := Lib.hid hkat
  clear hat hat' hbs hbp hd hkat
  cases hr : rightD d
  · rw [hr] at HR
    have e1 : rightE d = 1 := by unfold rightE; rw [hr]; rfl
    have e2 : crashD d keep = noD := by unfold crashD; rw [hr]; rfl
    rw [e1, e2]
    clear e1 e2 hr
    go_enter Tryz.func54, Tryz.ntmps54
    go_wp2_with fail
    have hb2 : Below w.heap.size w ((w.alloc (.cells #[.slice a len cap, .slice a' len' cap'] 25)).alloc (.cells #[.slice none 0 0, .slice none 0 0] 25)) := ((Below.refl _ w).alloc (Nat.le_refl _) _).alloc (by simp) _
    have hB0 := heap_alloc2_old w (.cells #[.slice a len cap, .slice a' len' cap'] 25) (.cells #[.slice none 0 0, .slice none 0 0] 25)
    have hB1 := heap_alloc2_new w (.cells #[.slice a len cap, .slice a' len' cap'] 25) (.cells #[.slice none 0 0, .slice none 0 0] 25)
    refine (HR.out _ (HD.out.below hb2)).mono ?_
    rintro e w3 ⟨rfl, hb3⟩
    have hC0 : w3.heap[w.heap.size]? = some (.cells #[.slice a len cap, .slice a' len' cap'] 25 (0, 0)) := (hb3.block _ (Array.getElem?_eq_some_iff.1 hB0).1).trans hB0
    have hC1 : w3.heap[w.heap.size + 1]? = some (.cells #[.slice none 0 0, .slice none 0 0] 25 (0, 0)) := (hb3.block _ (Array.getElem?_eq_some_iff.1 hB1).1).trans hB1
    have hw3 := hb2.trans (hb3.mono hb2.size)
    clear hb2 hB0 hB1 hb3
    have q0 : w3.cell? ⟨w.heap.size + 1, 0, none⟩ = some (.slice none 0 0) := by rw [cell_of_row _ _ 0 _ _ _ hC1]; rfl
    have q1 : w3.cell? ⟨w.heap.size + 1, 1, none⟩ = some (.slice none 0 0) := by rw [cell_of_row _ _ 1 _ _ _ hC1]; rfl
    have f0 := block_frozen hC1 0
    have f1 := block_frozen hC1 1
    go_wp2_with fail
    exact bodyPost_ret (results_row_tmp rfl _ _ (w.heap.size + 1) _ _ _ _ rfl (block_set (block_set hC1 0 _) 1 _) Tryz.underlying25 rfl (by kernel_rfl)) rfl
      ⟨_, rfl, ⟨_, _, rfl, nilStrs _, nilWrts _⟩, (hw3.setCell (p := ⟨w.heap.size + 1, 0, none⟩) (by simp) _).setCell (p := ⟨w.heap.size + 1, 1, none⟩) (by simp) _⟩
  · rw [hr] at HR
    have e1 : rightE d = 0 := by unfold rightE; rw [hr]; rfl
    have e2 : crashD d keep = ⟨crashL d keep d.pend.length, []⟩ := by unfold crashD; rw [hr]; rfl
    rw [e1, e2]
    clear e1 e2
    go_enter Tryz.func54, Tryz.ntmps54
    go_wp2_with fail
    have hb2 : Below w.heap.size w ((w.alloc (.cells #[.slice a len cap, .slice a' len' cap'] 25)).alloc (.cells #[.slice none 0 0, .slice none 0 0] 25)) := ((Below.refl _ w).alloc (Nat.le_refl _) _).alloc (by simp) _
    have hB0 := heap_alloc2_old w (.cells #[.slice a len cap, .slice a' len' cap'] 25) (.cells #[.slice none 0 0, .slice none 0 0] 25)
    have hB1 := heap_alloc2_new w (.cells #[.slice a len cap, .slice a' len' cap'] 25) (.cells #[.slice none 0 0, .slice none 0 0] 25)
    refine (HR.out _ (HD.out.below hb2)).mono ?_
    rintro e w3 ⟨rfl, hb3⟩
    have hC0 : w3.heap[w.heap.size]? = some (.cells #[.slice a len cap, .slice a' len' cap'] 25 (0, 0)) := (hb3.block _ (Array.getElem?_eq_some_iff.1 hB0).1).trans hB0
    have hC1 : w3.heap[w.heap.size + 1]? = some (.cells #[.slice none 0 0, .slice none 0 0] 25 (0, 0)) := (hb3.block _ (Array.getElem?_eq_some_iff.1 hB1).1).trans hB1
    have hw3 := hb2.trans (hb3.mono hb2.size)
    clear hb2 hB0 hB1 hb3
    have hl := right_len d hr
    have q0 : w3.cell? ⟨w.heap.size, 0, none⟩ = some (.slice a len cap) := by rw [cell_of_row _ _ 0 _ _ _ hC0]; rfl
    have hS3 := HS.out.below hw3
    rw [← hlen] at hS3
    go_wp2_with fail
    rw [← hlen]
    refine (cloneStrs_any _ d.secs w3 hS3 (by omega) (by omega)).mono ?_
    rintro e w4 ⟨⟨g, c, rfl, hown⟩, hb4⟩
    have q1 : w4.cell? ⟨w.heap.size, 1, none⟩ = some (.slice a' len' cap') := (hb4.cell (p := ⟨w.heap.size, 1, none⟩) (Array.getElem?_eq_some_iff.1 hC0).1).trans (by rw [cell_of_row _ _ 1 _ _ _ hC0]; rfl)
    have HO := Lib.hid hown
    have hB1lt := (Array.getElem?_eq_some_iff.1 hC1).1
    have HC1 := Lib.hid hC1
    have HRT := Lib.hid hr
    clear hS3 q0 hC0 hC1 hown hr
    go_wp2_with fail
    go_loopw [19] (fun z wr => ∃ k : Nat, k ≤ len' ∧ z = .int .i64 k ∧ wr.ownsRow w3.heap.size 9 1 (.slice (some ⟨g, 0, none⟩) d.secs.length c) d.secs.length ((crashL d keep k).map .string) ∧ Below w3.heap.size w3 wr) (fun z _ => len' - (intOf z).toNat)
    case atStart => exact ⟨0, by omega, rfl, HO.out, hb4⟩
    case round =>
      obtain ⟨k, hk, rfl, hown, hbel⟩ := hrel
      have hbw : Below w.heap.size w wr := hw3.trans (hbel.mono hw3.size)
      by_cases hlt : k < len'
      · have hkl : (k : Int) < len' := by omega
        obtain ⟨b', off', rfl, hb', hat'⟩ := HA'.out.resolve_left (by omega)
        obtain ⟨hx0, hx1⟩ := (hat' k hlt).below hbw hb'
        obtain ⟨hr0, hr1⟩ := right_pend d HRT.out k (by omega)
        have hsn : crashL d keep (k + 1) = if keep.getD k false = true then (crashL d keep k).set (d.pend.getD k wrtZ).sector.toNat (d.pend.getD k wrtZ).bytes else crashL d keep k := rfl
        have hcl := crashL_len d keep k
        have HSN := Lib.hid hsn
        clear hat' hsn
        generalize d.pend.getD k wrtZ = X at *
        obtain ⟨xs, xb⟩ := X
        simp only at hx0 hx1 hr0 hr1 HSN
        obtain ⟨S, rfl⟩ := Int.eq_ofNat_of_zero_le hr0
        have hS : S < d.secs.length := by omega
        have hSI : (S : Int) < d.secs.length := by omega
        by_cases hkk : k < kn
        · have hkkI : (k : Int) < kn := by omega
          obtain ⟨kb, ko, rfl, hkb, hkc⟩ := HK.out.resolve_left (by omega)
          have hkl2 : k < keep.length := by omega
          have hkcell := (hbw.cell (p := ⟨kb, ko + k, none⟩) hkb).trans (hkc k hkl2)
          have hkcell2 := fun o : Obj => (World.cell?_of_block (a := ⟨kb, ko + k, none⟩) (Below.heap_alloc wr o kb (Nat.lt_of_lt_of_le hkb hbw.size))).trans hkcell
          clear hkcell
          have hgd : keep.getD k false = keep[k] := by simp [List.getD, hkl2]
          rw [hgd] at HSN
          generalize keep[k] = B at *
          clear hkc hgd hkl2
          cases B
          · have hbx : Below w3.heap.size w3 (wr.alloc (.cells #[.int .i64 (S : Int), .string xb] 46)) := hbel.alloc hbel.size _
            have HOW := Lib.hid (hown.alloc (.cells #[.int .i64 (S : Int), .string xb] 46))
            clear hown hbel hbw
            go_wp2_with fail
            go_roundw
            case rel => exact ⟨k + 1, by omega, by go_num, by rw [HSN.out]; exact HOW.out, hbx⟩
            case measure => simp [intOf]; omega
          · have hoa := hown.alloc (.cells #[.int .i64 (S : Int), .string xb] 46)
            have hbx : Below w3.heap.size w3 (wr.alloc (.cells #[.int .i64 (S : Int), .string xb] 46)) := hbel.alloc hbel.size _
            have hcell : (wr.alloc (.cells #[.int .i64 (S : Int), .string xb] 46)).cell? ⟨g, S, none⟩ = some (.string ((crashL d keep k)[S]'(by omega))) := by
              rw [hoa.cellAt S (by omega)]
              simp [show S < (crashL d keep k).length by omega]
            have hfz := hoa.frozenAt S
            obtain ⟨hst, _⟩ := hoa.stored S (.string xb)
            have hgb : w3.heap.size ≤ g := (hown.lt g rfl).1
            have hbs := hbx.setCell (p := ⟨g, S, none⟩) hgb (.string xb)
            have HST := Lib.hid hst; have HBX := Lib.hid hbs
            clear hown hbel hbw hoa hst hbx hbs
            go_wp2_with fail
            go_roundw
            case rel => exact ⟨k + 1, by omega, by go_num, by rw [HSN.out, if_pos rfl, Int.toNat_natCast, List.map_set]; exact HST.out, HBX.out⟩
            case measure => simp [intOf]; omega
        · have hkkI : (kn : Int) ≤ k := by omega
          have hgd : keep.getD k false = false := by rw [List.getD, List.getElem?_eq_none (by omega)]; rfl
          rw [hgd] at HSN
          have hbx : Below w3.heap.size w3 (wr.alloc (.cells #[.int .i64 (S : Int), .string xb] 46)) := hbel.alloc hbel.size _
          have HOW := Lib.hid (hown.alloc (.cells #[.int .i64 (S : Int), .string xb] 46))
          clear hown hbel hbw hgd
          go_wp2_with fail
          go_roundw
          case rel => exact ⟨k + 1, by omega, by go_num, by rw [HSN.out]; exact HOW.out, hbx⟩
          case measure => simp [intOf]; omega
      · obtain rfl : k = len' := by omega
        have hC2 : wr.heap[w.heap.size + 1]? = some (.cells #[.slice none 0 0, .slice none 0 0] 25 (0, 0)) := (hbel.block _ hB1lt).trans HC1.out
        have z0 : wr.cell? ⟨w.heap.size + 1, 0, none⟩ = some (.slice none 0 0) := by rw [cell_of_row _ _ 0 _ _ _ hC2]; rfl
        have z1 : wr.cell? ⟨w.heap.size + 1, 1, none⟩ = some (.slice none 0 0) := by rw [cell_of_row _ _ 1 _ _ _ hC2]; rfl
        have f0 := block_frozen hC2 0
        have f1 := block_frozen hC2 1
        have HOW := Lib.hid hown
        clear hown hlt
        have hbd : ∀ s ∈ crashL d keep d.pend.length, s.size ≤ 9223372036854775807 := crashL_bnd d keep HBP.out HBS.out _ (Nat.le_refl _)
        have HBD := Lib.hid hbd
        clear hbd
        go_wp2_with fail
        refine bodyPost_ret (results_row_tmp rfl _ _ (w.heap.size + 1) _ _ _ _ rfl (block_set (block_set hC2 0 _) 1 _) Tryz.underlying25 rfl (by kernel_rfl)) rfl
          ⟨_, rfl, ⟨_, _, rfl, ?_, nilWrts _⟩, (hbw.setCell (p := ⟨w.heap.size + 1, 0, none⟩) (by simp) _).setCell (p := ⟨w.heap.size + 1, 1, none⟩) (by simp) _⟩
        have h1 := ownsRow_setCell_below (ownsRow_setCell_below HOW.out (a := ⟨w.heap.size + 1, 0, none⟩) hB1lt (.slice (some ⟨g, 0, none⟩) d.secs.length c)) (a := ⟨w.heap.size + 1, 1, none⟩) hB1lt (.slice none 0 0)
        rw [hlen] at h1
        rw [hlen'] at HBD
        have h2 := own_strs h1 HBD.out
        simpa [hlen'] using h2
end SDiskC
section SBack
open Go.RowKit Go.Shelf
attribute [local go_sem] Oper.semAt_some
set_option linter.unusedVariables false

/-- the places from the last one down, k of them -/
def down (len k : Nat) : List Nat := (List.range k).map fun j => len - 1 - j
theorem down_succ (len k : Nat) : down len (k + 1) = down len k ++ [len - 1 - k] := by simp [down, List.range_succ]
theorem down_len (len k : Nat) : (down len k).length = k := by simp [down]
def wrtEnc (l : List Wrt) (i : Nat) : Array Value := #[.int .i64 (i : Nat), .agg #[.int .i64 (l.getD i wrtZ).sector, .string (l.getD i wrtZ).bytes]]

set_option maxHeartbeats 1000000 in
theorem back_in (F : Fence) (n : Nat) (h5 : F.fn 101) (hro : F.round = none) (a : Option Addr) (len cap : Nat) (w : World) :
    CallsIn F n Tryz.prog 101 #[.slice a len cap] w fun e w' => e = .returned (.func (.func 115) #[] #[.pointer (some ⟨w.heap.size, 0, none⟩)]) ∧ w' = w.alloc (.cells #[.slice a len cap] 23) := by
  refine callsIn_of_wp Tryz.func101 rfl h5 ?_ hro
  simp only [Tryz.ntmps101, List.size_toArray, List.length_cons, List.length_nil, Nat.reduceAdd, Nat.reduceSub, Array.replicate_succ, Array.replicate_zero, List.push_toArray, List.append_toArray, List.nil_append, List.cons_append]
  gi_wp2
  go_ret
  exact ⟨rfl, rfl⟩

set_option maxRecDepth 100000 in
set_option maxHeartbeats 2000000 in
theorem back1_in (F : Fence) (n : Nat) (h7 : F.fn 115) (hro : F.round = none) (hn : 1 ≤ n) (l Bs n₀ : Nat) (pl : List Wrt) (pv : Value) (W0 : World) (hp : IsWrts W0 pv pl) (hlen : pl.length ≤ 1000000) (J Jx : List Nat → World → Prop)
    (hn0 : W0.heap.size ≤ n₀) (hBs : Bs < n₀)
    (hY : ∀ pre x W, J pre W → pre.length < pl.length → YieldAt F (n - 1) Tryz.prog l (wrtEnc pl x) W fun e W' =>
      (e = .returned (.bool true) ∧ J (pre ++ [x]) W' ∧ Below n₀ W W') ∨ (e = .returned (.bool false) ∧ Jx (pre ++ [x]) W'))
    (W : World) (hW : Below W0.heap.size W0 W) (hBox : Boxed W Bs 23 pv) (h0 : J [] W) :
    CallsIn F n Tryz.prog 115 #[.func (.yield l) #[] #[], .pointer (some ⟨Bs, 0, none⟩)] W fun e W' => (∃ v, e = .returned v) ∧
      ((∃ ys, ys = down pl.length pl.length ∧ J ys W') ∨ (∃ pre, (∃ k, k ≤ pl.length ∧ pre = down pl.length k) ∧ Jx pre W')) := by
  obtain ⟨a, len, cap, rfl, rfl, hc1, hc2, hbd, hat⟩ := hp
  have hlI : (pl.length : Int) ≤ 1000000 := by omega
  have hb0 := hBox.cell
  refine callsIn_of_wp Tryz.func115 rfl h7 ?_ hro
  simp only [Tryz.ntmps115, List.size_toArray, List.length_cons, List.length_nil, Nat.reduceAdd, Nat.reduceSub, Array.replicate_succ, Array.replicate_zero, List.push_toArray, List.append_toArray, List.nil_append, List.cons_append]
  gi_wp2
  gi_loopw [3] (fun i wr => ∃ k : Nat, k ≤ pl.length ∧ i = .int .i64 ((pl.length : Int) - 1 - k) ∧ J (down pl.length k) wr ∧ Below n₀ W wr)
    (fun i _ => (intOf i + 1).toNat)
  case atStart => exact ⟨0, Nat.zero_le _, by simp, h0, Below.refl _ _⟩
  case round =>
    obtain ⟨k, hk, rfl, hJs, hbel⟩ := hrel
    have hb1 := (hbel.cell (p := ⟨Bs, 0, none⟩) hBs).trans hb0
    by_cases hlt : k < pl.length
    · obtain ⟨j, hj⟩ : ∃ j, pl.length = k + j + 1 := ⟨pl.length - k - 1, by omega⟩
      have hz : (pl.length : Int) - 1 - k = (j : Nat) := by omega
      have hjd : pl.length - 1 - k = j := by omega
      rw [hz]
      obtain ⟨b, off, rfl, hb, hat⟩ := hat.resolve_left (by omega)
      obtain ⟨x0, x1⟩ := ((hat j (by omega)).below hW hb).below hbel (Nat.lt_of_lt_of_le hb hn0)
      have hjI : (j : Int) < pl.length := by omega
      obtain ⟨fn, tmps, assign, body, hy, hR⟩ := hY _ j wr hJs (by rw [down_len]; exact hlt)
      unfold wrtEnc at hy
      have hnx : (j : Int) - 1 = (pl.length : Int) - 1 - ((k + 1 : Nat) : Int) := by omega
      have hds : down pl.length (k + 1) = down pl.length k ++ [j] := by rw [down_succ, hjd]
      have HR := Lib.hid hR; have HNX := Lib.hid hnx; have HDS := Lib.hid hds
      generalize pl.getD j wrtZ = X at *
      have hk1 : k + 1 ≤ pl.length := hlt
      clear hY hR hnx hds hat hz hjd hj
      gi_wp2
      refine HR.out.mono ?_
      rintro e W3 (⟨rfl, hJ3, hk3⟩ | ⟨rfl, hJx3⟩)
      · clear HR hy
        gi_wp2
        go_roundw
        case rel => exact ⟨k + 1, hk1, by rw [← HNX.out], by rw [HDS.out]; exact hJ3, hbel.trans hk3⟩
        case measure => first | (simp [intOf]; done) | (simp [intOf]; omega)
      · clear HR hy
        gi_wp2
        refine bodyPost_ret (results_none rfl _ _ _) rfl ?_
        exact ⟨⟨_, rfl⟩, .inr ⟨_, ⟨k + 1, hk1, HDS.out.symm⟩, hJx3⟩⟩
    · obtain rfl : k = pl.length := by omega
      have hz : (pl.length : Int) - 1 - (pl.length : Nat) = -1 := by omega
      rw [hz]
      gi_wp2
      go_end0
      exact ⟨⟨_, rfl⟩, .inl ⟨_, rfl, hJs⟩⟩
theorem back_stops (F : Fence) (n : Nat) (h7 : F.fn 115) (hro : F.round = none) (hn : 1 ≤ n) (Bs : Nat) (pl : List Wrt) (pv : Value) (w : World) (hp : IsWrts w pv pl) (hlen : pl.length ≤ 1000000)
    (hBox : Boxed w Bs 23 pv) :
    SeqStopsK F n Tryz.prog 115 #[.pointer (some ⟨Bs, 0, none⟩)] (wrtEnc pl) (Below w.heap.size) (fun ys => ys = down pl.length pl.length)
      (fun pre => ∃ k, k ≤ pl.length ∧ pre = down pl.length k) pl.length w := fun l J Jx W hW _ _ hY h0 =>
  back1_in F n h7 hro hn l Bs w.heap.size pl pv w hp hlen J Jx (Nat.le_refl _) hBox.lt hY W hW ((hW.block Bs hBox.lt).trans hBox) h0
end SBack
section SDiskRd
open Go.RowKit Go.Shelf
attribute [local go_sem] Oper.semAt_some
set_option linter.unusedVariables false

/-- the last of the first k writes to a sector, else what it has -/
def tellsL (d : Dsk) (n : Nat) : Nat → ByteArray
  | 0 => d.secs.getD n ⟨#[]⟩
  | k + 1 => if (d.pend.getD k wrtZ).sector = n then (d.pend.getD k wrtZ).bytes else tellsL d n k
def tells (d : Dsk) (n : Nat) : ByteArray := tellsL d n d.pend.length
def readE (d : Dsk) (n : Int) : Int := if rightD d = true then (if 0 ≤ n ∧ n < d.secs.length then 0 else 20) else 1
def readS (d : Dsk) (n : Int) : ByteArray := if readE d n = 0 then tells d n.toNat else ⟨#[]⟩
theorem tells_none (d : Dsk) (n : Nat) : ∀ k, (∀ j, j < k → (d.pend.getD j wrtZ).sector ≠ n) → tellsL d n k = d.secs.getD n ⟨#[]⟩
  | 0, _ => rfl
  | k + 1, h => by rw [tellsL, if_neg (h k (by omega))]; exact tells_none d n k (fun j hj => h j (by omega))
theorem tells_hit (d : Dsk) (n j : Nat) (h : (d.pend.getD j wrtZ).sector = n) : ∀ k, j < k → (∀ i, j < i → i < k → (d.pend.getD i wrtZ).sector ≠ n) → tellsL d n k = (d.pend.getD j wrtZ).bytes
  | 0, hj, _ => by omega
  | k + 1, hj, hn => by
    rw [tellsL]
    by_cases e : j = k
    · subst e; rw [if_pos h]
    · rw [if_neg (hn k (by omega) (by omega))]
      exact tells_hit d n j h k (by omega) (fun i h1 h2 => hn i h1 (by omega))

set_option maxRecDepth 100000 in
set_option maxHeartbeats 2000000 in
theorem diskRead_in (n : Nat) (hn : 4 ≤ n) (v : Value) (d : Dsk) (s : Int) (w : World) (h : IsDisk w v d) (hlen : d.pend.length ≤ 1000000) :
    CallsIn Fence.wide n Tryz.prog 71 #[v, .int .i64 s] w fun e w' => e = .returned (.tuple #[.string (readS d s), .int .i64 (readE d s)]) ∧ Below w.heap.size w w' := by
  have hd := h
  obtain ⟨sv, pv, rfl, hs, hp⟩ := h
  have HR := Lib.hid (fun u hu => diskRight_any (.agg #[sv, pv]) d u hu)
  have HH := Lib.hid (fun u hu => diskHas_any (.agg #[sv, pv]) d s u hu)
  have HS := Lib.hid hs; have HP := Lib.hid hp; have HD := Lib.hid hd
  obtain ⟨a, len, cap, rfl, hl, hc1, hc2, hbs, hat⟩ := hs
  obtain ⟨a', len', cap', rfl, hl', hc1', hc2', hbp, hat'⟩ := hp
  have HA := Lib.hid hat
  clear hat hat' hbs hbp hd
  have h1 : 1 ≤ n := by omega
  refine callsIn_of_wp_marks Tryz.func71 rfl trivial ?_ rfl
  simp only [Tryz.ntmps71, List.size_toArray, List.length_cons, List.length_nil, Nat.reduceAdd, Nat.reduceSub, Array.replicate_succ, Array.replicate_zero, List.push_toArray, List.append_toArray, List.nil_append, List.cons_append]
  gi_wp2_with fail
  have hb4 : Below w.heap.size w ((((w.alloc (.cells #[.slice a len cap, .slice a' len' cap'] 25)).alloc (.cells #[.int .i64 s] 3)).alloc (.cells #[.string ⟨#[]⟩] 9)).alloc (.cells #[.int .i64 0] 32)) :=
    ((((Below.refl _ w).alloc (Nat.le_refl _) _).alloc (by simp) _).alloc (by simp; omega) _).alloc (by simp; omega) _
  have hB0 : ((((w.alloc (.cells #[.slice a len cap, .slice a' len' cap'] 25)).alloc (.cells #[.int .i64 s] 3)).alloc (.cells #[.string ⟨#[]⟩] 9)).alloc (.cells #[.int .i64 0] 32)).heap[w.heap.size]? = some (.cells #[.slice a len cap, .slice a' len' cap'] 25 (0, 0)) := by
    exact (Below.heap_alloc _ _ _ (by simp; omega)).trans ((Below.heap_alloc _ _ _ (by simp; omega)).trans ((Below.heap_alloc _ _ _ (by simp)).trans (heap_alloc_new w _)))
  have hB1 : Boxed ((((w.alloc (.cells #[.slice a len cap, .slice a' len' cap'] 25)).alloc (.cells #[.int .i64 s] 3)).alloc (.cells #[.string ⟨#[]⟩] 9)).alloc (.cells #[.int .i64 0] 32)) (w.heap.size + 1) 3 (.int .i64 s) := by
    have := ((Boxed.new (w.alloc (.cells #[.slice a len cap, .slice a' len' cap'] 25)) 3 (.int .i64 s)).alloc (.cells #[.string ⟨#[]⟩] 9)).alloc (.cells #[.int .i64 0] 32)
    simpa using this
  have hB2 : Boxed ((((w.alloc (.cells #[.slice a len cap, .slice a' len' cap'] 25)).alloc (.cells #[.int .i64 s] 3)).alloc (.cells #[.string ⟨#[]⟩] 9)).alloc (.cells #[.int .i64 0] 32)) (w.heap.size + 1 + 1) 9 (.string ⟨#[]⟩) := by
    have := (Boxed.new ((w.alloc (.cells #[.slice a len cap, .slice a' len' cap'] 25)).alloc (.cells #[.int .i64 s] 3)) 9 (.string ⟨#[]⟩)).alloc (.cells #[.int .i64 0] 32)
    simpa using this
  have hB3 : Boxed ((((w.alloc (.cells #[.slice a len cap, .slice a' len' cap'] 25)).alloc (.cells #[.int .i64 s] 3)).alloc (.cells #[.string ⟨#[]⟩] 9)).alloc (.cells #[.int .i64 0] 32)) (w.heap.size + 1 + 1 + 1) 32 (.int .i64 0) := by
    have := Boxed.new (((w.alloc (.cells #[.slice a len cap, .slice a' len' cap'] 25)).alloc (.cells #[.int .i64 s] 3)).alloc (.cells #[.string ⟨#[]⟩] 9)) 32 (.int .i64 0)
    simpa using this
  generalize ((((w.alloc (.cells #[.slice a len cap, .slice a' len' cap'] 25)).alloc (.cells #[.int .i64 s] 3)).alloc (.cells #[.string ⟨#[]⟩] 9)).alloc (.cells #[.int .i64 0] 32)) = w4 at *
  refine ⟨trivial, (callsIn_wide.2 (HR.out _ (HD.out.below hb4))).mono ?_⟩
  rintro e w5 ⟨rfl, hb5⟩
  have hC0 := (hb5.block _ (Array.getElem?_eq_some_iff.1 hB0).1).trans hB0
  have hC1 : Boxed w5 (w.heap.size + 1) 3 (.int .i64 s) := (hb5.block _ hB1.lt).trans hB1
  have hC2 : Boxed w5 (w.heap.size + 1 + 1) 9 (.string ⟨#[]⟩) := (hb5.block _ hB2.lt).trans hB2
  have hC3 : Boxed w5 (w.heap.size + 1 + 1 + 1) 32 (.int .i64 0) := (hb5.block _ hB3.lt).trans hB3
  have hw5 := hb4.trans (hb5.mono hb4.size)
  clear hb4 hb5 hB0 hB1 hB2 hB3
  cases hr : rightD d
  · have e1 : readE d s = 1 := by unfold readE; rw [hr]; rfl
    have e2 : readS d s = ⟨#[]⟩ := by unfold readS; rw [e1]; rfl
    have E1 := Lib.hid e1; have E2 := Lib.hid e2
    have r2 := hC2.cell; have r3 := hC3.cell; have f2 := hC2.frozen; have f3 := hC3.frozen
    clear e1 e2 hr
    gi_wp2_with fail
    have c2 : ((w5.setCell ⟨w.heap.size + 1 + 1, 0, none⟩ (.string ⟨#[]⟩)).setCell ⟨w.heap.size + 1 + 1 + 1, 0, none⟩ (.int .i64 1)).cell? ⟨w.heap.size + 1 + 1, 0, none⟩ = some (.string ⟨#[]⟩) := by
      rw [World.cell?_setCell_other _ _ _ _ (by intro h; injection h with h1; omega)]; exact World.cell?_setCell_same _ _ _ r2
    have c3 : ((w5.setCell ⟨w.heap.size + 1 + 1, 0, none⟩ (.string ⟨#[]⟩)).setCell ⟨w.heap.size + 1 + 1 + 1, 0, none⟩ (.int .i64 1)).cell? ⟨w.heap.size + 1 + 1 + 1, 0, none⟩ = some (.int .i64 1) :=
      World.cell?_setCell_same _ _ _ (by rw [World.cell?_setCell_other _ _ _ _ (by intro h; injection h with h1; omega)]; exact r3)
    refine ⟨.tuple #[.string ⟨#[]⟩, .int .i64 1], by simp [results, Tryz.f71, go_sem, c2, c3], by rw [E1.out, E2.out], (hw5.setCell (p := ⟨w.heap.size + 1 + 1, 0, none⟩) (by simp; omega) _).setCell (p := ⟨w.heap.size + 1 + 1 + 1, 0, none⟩) (by simp; omega) _⟩
  · have q0 : w5.cell? ⟨w.heap.size, 0, none⟩ = some (.slice a len cap) := by rw [cell_of_row _ _ 0 _ _ _ hC0]; rfl
    have q1 : w5.cell? ⟨w.heap.size, 1, none⟩ = some (.slice a' len' cap') := by rw [cell_of_row _ _ 1 _ _ _ hC0]; rfl
    have q2 := hC1.cell
    have HRT := Lib.hid hr
    clear hr
    gi_wp2_with fail
    refine ⟨trivial, (callsIn_wide.2 (HH.out _ (HD.out.below hw5))).mono ?_⟩
    rintro e w6 ⟨rfl, hb6⟩
    have hC0' := (hb6.block _ (Array.getElem?_eq_some_iff.1 hC0).1).trans hC0
    have hC1' : Boxed w6 (w.heap.size + 1) 3 (.int .i64 s) := (hb6.block _ hC1.lt).trans hC1
    have hC2' : Boxed w6 (w.heap.size + 1 + 1) 9 (.string ⟨#[]⟩) := (hb6.block _ hC2.lt).trans hC2
    have hC3' : Boxed w6 (w.heap.size + 1 + 1 + 1) 32 (.int .i64 0) := (hb6.block _ hC3.lt).trans hC3
    have hw6 := hw5.trans (hb6.mono hw5.size)
    clear hw5 hb6 hC0 hC1 hC2 hC3 q0 q1 q2
    by_cases hin : 0 ≤ s ∧ s < d.secs.length
    · rw [decide_eq_true hin]
      have e1 : readE d s = 0 := by unfold readE; rw [HRT.out, if_pos rfl, if_pos hin]
      have e2 : readS d s = tells d s.toNat := by unfold readS; rw [if_pos e1]
      obtain ⟨N, rfl⟩ := Int.eq_ofNat_of_zero_le hin.1
      rw [Int.toNat_natCast] at e2
      have hN : N < d.secs.length := by omega
      have E1 := Lib.hid e1; have E2 := Lib.hid e2
      have q1 : w6.cell? ⟨w.heap.size, 1, none⟩ = some (.slice a' len' cap') := by rw [cell_of_row _ _ 1 _ _ _ hC0']; rfl
      clear e1 e2 hin
      gi_wp2_with (first | (gi_at_call 101; refine ⟨trivial, (back_in Fence.wide (n - 1) trivial rfl _ _ _ _).mono ?_⟩; rintro e w' ⟨rfl, rfl⟩) | (refine ⟨trivial, ?_⟩; gi_at_call 101; refine (back_in Fence.wide (n - 1) trivial rfl _ _ _ _).mono ?_; rintro e w' ⟨rfl, rfl⟩))
      have hb7 : Below w.heap.size w (w6.alloc (.cells #[.slice a' len' cap'] 23)) := hw6.alloc hw6.size _
      have hC0 := (Below.heap_alloc w6 (.cells #[.slice a' len' cap'] 23) _ (Array.getElem?_eq_some_iff.1 hC0').1).trans hC0'
      have hC1 := hC1'.alloc (.cells #[.slice a' len' cap'] 23)
      have hC2 := hC2'.alloc (.cells #[.slice a' len' cap'] 23)
      have hC3 := hC3'.alloc (.cells #[.slice a' len' cap'] 23)
      have hBk := Boxed.new w6 23 (.slice a' len' cap')
      have hP7 := HP.out.below hb7
      have hS7 := HS.out.below hb7
      obtain ⟨w7, hW7⟩ : ∃ w7, w6.alloc (.cells #[.slice a' len' cap'] 23) = w7 := ⟨_, rfl⟩
      rw [hW7] at hb7 hC0 hC1 hC2 hC3 hBk hP7 hS7 ⊢
      clear hW7 hC0' hC1' hC2' hC3' hw6 q1
      refine wpIn_rangeFunc_ownH rfl h1 (gf := 115) (lb := #[.pointer (some ⟨w6.heap.size, 0, none⟩)]) rfl trivial (enters_of Tryz.func115 (by kernel_rfl) rfl)
        (back_stops Fence.wide (n - 1) trivial rfl (by omega) w6.heap.size d.pend _ w7 hP7 hlen hBk) belowK_t (belowK_b (Nat.le_refl _)) (Below.refl _ _) (fun _ => rfl)
        (fun (pre : List Nat) W => (∀ i ∈ pre, (d.pend.getD i wrtZ).sector ≠ (N : Nat)) ∧ Below w7.heap.size w7 W)
        (fun c pre W => (c = .ret ∧ ∃ ini last, pre = ini ++ [last] ∧ (∀ i ∈ ini, (d.pend.getD i wrtZ).sector ≠ (N : Nat)) ∧ (d.pend.getD last wrtZ).sector = (N : Nat) ∧ W.cell? ⟨w.heap.size + 1 + 1, 0, none⟩ = some (.string (d.pend.getD last wrtZ).bytes) ∧ W.cell? ⟨w.heap.size + 1 + 1 + 1, 0, none⟩ = some (.int .i64 0)) ∧ Below w.heap.size w W)
        (OwnFrom.and (fun _ _ _ _ hs _ _ => hs) (ownFrom_below (Nat.le_refl _) (Nat.le_refl _)))
        (fun c => OwnFrom.and (Own.from (fun s A B row hs hg hr => by obtain ⟨hc, ini, last, e1, e2, e3, e4, e5⟩ := hs; exact ⟨hc, ini, last, e1, e2, e3, cell_kept e4 hg hr, cell_kept e5 hg hr⟩) _) (ownFrom_below (Nat.le_refl _) hb7.size))
        ⟨(fun i hi => by cases hi), Below.refl _ _⟩
        (fun x ac W => ∃ Bx, w7.heap.size ≤ Bx ∧ W.heap[Bx]? = some (.cells #[.int .i64 (d.pend.getD x wrtZ).sector, .string (d.pend.getD x wrtZ).bytes] 46 (0, 0)) ∧ ac = { tmps := #[.agg #[.slice a len cap, .slice a' len' cap'], .int .i64 (N : Nat), .pointer (some ⟨w.heap.size, 0, none⟩), .pointer (some ⟨w.heap.size + 1, 0, none⟩), .pointer (some ⟨w.heap.size + 1 + 1, 0, none⟩), .pointer (some ⟨w.heap.size + 1 + 1 + 1, 0, none⟩), undef, .pointer (some ⟨Bx, 0, none⟩), .agg #[.slice a len cap, .slice a' len' cap'], .bool true, .bool false, .agg #[.slice a len cap, .slice a' len' cap'], .int .i64 (N : Nat), .bool true, .bool false, .pointer (some ⟨w.heap.size, 1, none⟩), .slice a' len' cap', .func (.func 115) #[] #[.pointer (some ⟨w6.heap.size, 0, none⟩)], .int .i64 (x : Nat), .agg #[.int .i64 (d.pend.getD x wrtZ).sector, .string (d.pend.getD x wrtZ).bytes], undef, undef, undef, undef, undef, undef, undef, undef, undef, undef, undef], defers := [] })
        (fun x ac _ X Y row hs hg hr => by
          obtain ⟨Bx, h1, h2, h3⟩ := hs
          exact ⟨Bx, h1, (hg.block Bx (Array.getElem?_eq_some_iff.1 h2).1 (fun e => by obtain ⟨_, o, ho, hc⟩ := hr Bx e.symm; rw [h2] at ho; cases ho; cases hc)).trans h2, h3⟩)
        ?assign ?body ?done ?stop
      case assign =>
        rintro l pre x W K ⟨hno, hB⟩ hK
        unfold wrtEnc
        obtain ⟨X, hX⟩ : ∃ X, d.pend.getD x wrtZ = X := ⟨_, rfl⟩
        rw [hX] at hK ⊢
        gi_wp2
        exact hK _ _ ((KeepsOthers.alloc _ _).from _) ((Below.refl _ W).alloc hB.size _) ⟨hno, hB.alloc hB.size _⟩ ⟨W.heap.size, hB.size, heap_alloc_new _ _, rfl⟩
      case body =>
        rintro l pre x ac W hl ⟨r, hr⟩ ⟨hno, hB⟩ ⟨Bx, hBx, bX, rfl⟩ hlt
        have x0 : W.cell? ⟨Bx, 0, none⟩ = some (.int .i64 (d.pend.getD x wrtZ).sector) := by rw [cell_of_row _ _ 0 _ _ _ bX]; rfl
        have x1 : W.cell? ⟨Bx, 1, none⟩ = some (.string (d.pend.getD x wrtZ).bytes) := by rw [cell_of_row _ _ 1 _ _ _ bX]; rfl
        have r1 : Boxed W _ _ _ := (hB.block _ hC1.lt).trans hC1
        have r2 : Boxed W _ _ _ := (hB.block _ hC2.lt).trans hC2
        have r3 : Boxed W _ _ _ := (hB.block _ hC3.lt).trans hC3
        have y1 := r1.cell; have y2 := r2.cell; have y3 := r3.cell; have f2 := r2.frozen; have f3 := r3.frozen
        obtain ⟨X, hX⟩ : ∃ X, d.pend.getD x wrtZ = X := ⟨_, rfl⟩
        rw [hX] at x0 x1 bX ⊢
        gi_wp2
        · have hx : X.sector = (N : Nat) := of_decide_eq_true (by assumption)
          refine ⟨((KeepsOthers.setCell _ _ _).from _).trans ((KeepsOthers.setCell _ _ _).from _), ⟨rfl, pre, x, rfl, hno, by rw [hX]; exact hx, ?_, ?_⟩, ((hb7.trans (hB.mono hb7.size)).setCell (p := ⟨w.heap.size + 1 + 1, 0, none⟩) (by simp; omega) _).setCell (p := ⟨w.heap.size + 1 + 1 + 1, 0, none⟩) (by simp; omega) _⟩
          · rw [hX, World.cell?_setCell_other _ _ _ _ (by intro h; injection h with h1; omega)]; exact World.cell?_setCell_same _ _ _ y2
          · exact World.cell?_setCell_same _ _ _ (by rw [World.cell?_setCell_other _ _ _ _ (by intro h; injection h with h1; omega)]; exact y3)
        · have hx : ¬ X.sector = (N : Nat) := of_decide_eq_false (by assumption)
          exact ⟨KeepsFrom.refl _ _, Below.refl _ _, fun i hi => (List.mem_append.1 hi).elim (hno i) (fun e => by simp at e; subst e; rw [hX]; exact hx), hB⟩
      case done =>
        rintro D ys W hD rfl ⟨hno, hB⟩ hK
        have r1 : Boxed W _ _ _ := (hB.block _ hC1.lt).trans hC1
        have r2 : Boxed W _ _ _ := (hB.block _ hC2.lt).trans hC2
        have r3 : Boxed W _ _ _ := (hB.block _ hC3.lt).trans hC3
        have b0 := (hB.block _ (Array.getElem?_eq_some_iff.1 hC0).1).trans hC0
        have q0 : W.cell? ⟨w.heap.size, 0, none⟩ = some (.slice a len cap) := by rw [cell_of_row _ _ 0 _ _ _ b0]; rfl
        have y1 := r1.cell; have y2 := r2.cell; have y3 := r3.cell; have f2 := r2.frozen; have f3 := r3.frozen
        have hbW := hb7.trans (hB.mono hb7.size)
        obtain ⟨b, off, rfl, hb, hat⟩ := HA.out.resolve_left (by omega)
        have z0 := (hbW.cell (p := ⟨b, off + N, none⟩) hb).trans (hat N (by omega))
        gi_wp2
        have hK' := ((KeepsOthers.setCell W ⟨w.heap.size + 1 + 1, 0, none⟩ (.string (d.secs[N]?.getD ByteArray.empty))).trans (KeepsOthers.setCell _ ⟨w.heap.size + 1 + 1 + 1, 0, none⟩ (.int .i64 0))).same D _ hK rfl
        refine ⟨by simp, .inl ⟨_, _, rfl, run_takeDeferred hK', ?_⟩⟩
        have c2 : ((W.setCell ⟨w.heap.size + 1 + 1, 0, none⟩ (.string (d.secs[N]?.getD ByteArray.empty))).setCell ⟨w.heap.size + 1 + 1 + 1, 0, none⟩ (.int .i64 0)).cell? ⟨w.heap.size + 1 + 1, 0, none⟩ = some (.string (d.secs[N]?.getD ByteArray.empty)) := by
          rw [World.cell?_setCell_other _ _ _ _ (by intro h; injection h with h1; omega)]; exact World.cell?_setCell_same _ _ _ y2
        have c3 : ((W.setCell ⟨w.heap.size + 1 + 1, 0, none⟩ (.string (d.secs[N]?.getD ByteArray.empty))).setCell ⟨w.heap.size + 1 + 1 + 1, 0, none⟩ (.int .i64 0)).cell? ⟨w.heap.size + 1 + 1 + 1, 0, none⟩ = some (.int .i64 0) :=
          World.cell?_setCell_same _ _ _ (by rw [World.cell?_setCell_other _ _ _ _ (by intro h; injection h with h1; omega)]; exact y3)
        have d2 := cell_kept c2 (grownBy_putObj' _ D (.deferred none)) (fun r e => by cases e; exact ⟨_, hK', rfl⟩)
        have d3 := cell_kept c3 (grownBy_putObj' _ D (.deferred none)) (fun r e => by cases e; exact ⟨_, hK', rfl⟩)
        have ht : tells d N = d.secs[N]?.getD ByteArray.empty := by
          unfold tells
          rw [tells_none d N _ (fun j hj => hno j (by unfold down; simp only [List.mem_map, List.mem_range]; exact ⟨d.pend.length - 1 - j, by omega, by omega⟩))]
          rw [List.getD_eq_getElem?_getD]; rfl
        refine ⟨.tuple #[.string (tells d N), .int .i64 0], ?_, by rw [E1.out, E2.out], ((hbW.setCell (p := ⟨w.heap.size + 1 + 1, 0, none⟩) (by simp; omega) _).setCell (p := ⟨w.heap.size + 1 + 1 + 1, 0, none⟩) (by simp; omega) _).trans (belowK_b (w := w) (Nat.le_refl _) _ D _ _ (by have := hb7.size; omega) hK' rfl rfl)⟩
        rw [ht]
        simp [results, Tryz.f71, go_sem, d2, d3]
      case stop =>
        rintro D c pre W hD ⟨k, hk, rfl⟩ ⟨⟨rfl, ini, last, e1, e2, e3, e4, e5⟩, hB⟩ hK
        gi_wp2
        refine ⟨by simp, .inl ⟨_, _, rfl, run_takeDeferred hK, ?_⟩⟩
        have c2 := cell_kept e4 (grownBy_putObj' _ D (.deferred none)) (fun r e => by cases e; exact ⟨_, hK, rfl⟩)
        have c3 := cell_kept e5 (grownBy_putObj' _ D (.deferred none)) (fun r e => by cases e; exact ⟨_, hK, rfl⟩)
        obtain ⟨k', rfl⟩ : ∃ k', k = k' + 1 := by
          cases k with
          | zero => simp [down] at e1
          | succ k' => exact ⟨k', rfl⟩
        rw [down_succ] at e1
        obtain ⟨rfl, e6⟩ := List.append_inj' e1 rfl
        obtain rfl : d.pend.length - 1 - k' = last := by simpa using e6
        have ht : tells d N = (d.pend.getD (d.pend.length - 1 - k') wrtZ).bytes :=
          tells_hit d N _ (by omega) _ (by omega) (fun i h2 h3 => by
            have := e2 i (by unfold down; simp only [List.mem_map, List.mem_range]; exact ⟨d.pend.length - 1 - i, by omega, by omega⟩)
            omega)
        refine ⟨.tuple #[.string (tells d N), .int .i64 0], ?_, by rw [E1.out, E2.out], hB.trans (belowK_b (w := w) (Nat.le_refl _) W D _ _ (by have := hb7.size; omega) hK rfl rfl)⟩
        rw [ht]
        simp [results, Tryz.f71, go_sem, c2, c3]
    · rw [decide_eq_false hin]
      have e1 : readE d s = 20 := by unfold readE; rw [HRT.out, if_pos rfl, if_neg hin]
      have e2 : readS d s = ⟨#[]⟩ := by unfold readS; rw [e1]; rfl
      have E1 := Lib.hid e1; have E2 := Lib.hid e2
      have r2 := hC2'.cell; have r3 := hC3'.cell; have f2 := hC2'.frozen; have f3 := hC3'.frozen
      clear e1 e2 hin
      gi_wp2_with fail
      have c2 : ((w6.setCell ⟨w.heap.size + 1 + 1, 0, none⟩ (.string ⟨#[]⟩)).setCell ⟨w.heap.size + 1 + 1 + 1, 0, none⟩ (.int .i64 20)).cell? ⟨w.heap.size + 1 + 1, 0, none⟩ = some (.string ⟨#[]⟩) := by
        rw [World.cell?_setCell_other _ _ _ _ (by intro h; injection h with h1; omega)]; exact World.cell?_setCell_same _ _ _ r2
      have c3 : ((w6.setCell ⟨w.heap.size + 1 + 1, 0, none⟩ (.string ⟨#[]⟩)).setCell ⟨w.heap.size + 1 + 1 + 1, 0, none⟩ (.int .i64 20)).cell? ⟨w.heap.size + 1 + 1 + 1, 0, none⟩ = some (.int .i64 20) :=
        World.cell?_setCell_same _ _ _ (by rw [World.cell?_setCell_other _ _ _ _ (by intro h; injection h with h1; omega)]; exact r3)
      refine ⟨.tuple #[.string ⟨#[]⟩, .int .i64 20], by simp [results, Tryz.f71, go_sem, c2, c3], by rw [E1.out, E2.out], (hw6.setCell (p := ⟨w.heap.size + 1 + 1, 0, none⟩) (by simp; omega) _).setCell (p := ⟨w.heap.size + 1 + 1 + 1, 0, none⟩) (by simp; omega) _⟩
theorem diskRead_any (v : Value) (d : Dsk) (s : Int) (w : World) (h : IsDisk w v d) (hlen : d.pend.length ≤ 1000000) :
    Calls Tryz.prog 71 #[v, .int .i64 s] w fun e w' => e = .returned (.tuple #[.string (readS d s), .int .i64 (readE d s)]) ∧ Below w.heap.size w w' :=
  callsIn_wide.1 (diskRead_in 4 (Nat.le_refl _) v d s w h hlen)
end SDiskRd
section SDiskM
open Go.RowKit
set_option linter.unusedVariables false

theorem right_secs (d : Dsk) (h : rightD d = true) : ∀ s ∈ d.secs, fitsB s = true := by
  unfold rightD at h
  simp only [Bool.and_eq_true] at h
  exact List.all_eq_true.1 h.1.2
theorem right_wrts (d : Dsk) (h : rightD d = true) (i : Nat) (hi : i < d.pend.length) : fitsB (d.pend.getD i wrtZ).bytes = true := by
  unfold rightD at h
  simp only [Bool.and_eq_true] at h
  have := List.all_eq_true.1 h.2 (d.pend[i]) (List.getElem_mem hi)
  rw [show d.pend.getD i wrtZ = d.pend[i] from by simp [List.getD, hi]]
  unfold Wrt.fits at this
  simp only [Bool.and_eq_true] at this
  exact this.2
theorem crashL_fits (d : Dsk) (keep : List Bool) (h : rightD d = true) : ∀ n, n ≤ d.pend.length → ∀ s ∈ crashL d keep n, fitsB s = true
  | 0, _ => right_secs d h
  | n + 1, hn => by
    intro s hs
    rw [crashL] at hs
    split at hs
    · rcases List.mem_or_eq_of_mem_set hs with hs | rfl
      · exact crashL_fits d keep h n (by omega) s hs
      · exact right_wrts d h n (by omega)
    · exact crashL_fits d keep h n (by omega) s hs
theorem rightD_of (d : Dsk) (hl : 1 ≤ d.secs.length ∧ d.secs.length ≤ 256) (hs : ∀ s ∈ d.secs, fitsB s = true) (hp : d.pend = []) : rightD d = true := by
  unfold rightD
  rw [hp, List.all_nil, Bool.and_true, decide_eq_true hl, Bool.true_and]
  exact List.all_eq_true.2 hs
theorem crash_eq (d : Dsk) (keep : List Bool) (h : rightD d = true) : crashD d keep = ⟨crashL d keep d.pend.length, []⟩ := by unfold crashD; rw [if_pos h]
theorem crash_bad (d : Dsk) (keep : List Bool) (h : rightD d = false) : crashD d keep = noD := by unfold crashD; rw [if_neg (by rw [h]; decide)]
theorem crash_right (d : Dsk) (keep : List Bool) (h : rightD d = true) : rightD (crashD d keep) = true := by
  rw [crash_eq d keep h]
  refine rightD_of _ ?_ (crashL_fits d keep h _ (Nat.le_refl _)) rfl
  show 1 ≤ (crashL d keep d.pend.length).length ∧ (crashL d keep d.pend.length).length ≤ 256
  rw [crashL_len]
  exact right_len d h
theorem crash_len (d : Dsk) (keep : List Bool) (h : rightD d = true) : (crashD d keep).secs.length = d.secs.length := by
  rw [crash_eq d keep h]; exact crashL_len d keep _
theorem crash_pend (d : Dsk) (keep : List Bool) (h : rightD d = true) : (crashD d keep).pend = [] := by rw [crash_eq d keep h]
theorem crash_same (d : Dsk) (keep : List Bool) (h : rightD d = true) (hp : d.pend = []) : crashD d keep = d := by
  rw [crash_eq d keep h]; cases d; subst hp; rfl
theorem tells_same (d : Dsk) (n : Nat) (hp : d.pend = []) : tells d n = d.secs.getD n ⟨#[]⟩ := by unfold tells; rw [hp]; rfl
theorem read_ok (d : Dsk) (n : Nat) (h : rightD d = true) (hn : n < d.secs.length) : readE d n = 0 ∧ readS d n = tells d n := by
  have h1 : readE d n = 0 := by unfold readE; rw [if_pos h, if_pos (by omega)]
  exact ⟨h1, by unfold readS; rw [if_pos h1]; rfl⟩
/-- no write is kept -/
theorem crashL_none (d : Dsk) : ∀ n, crashL d [] n = d.secs
  | 0 => rfl
  | n + 1 => by rw [crashL]; simpa using crashL_none d n
theorem getD_set (l : List ByteArray) (i k : Nat) (x : ByteArray) (hi : i < l.length) : (l.set i x).getD k ⟨#[]⟩ = if i = k then x else l.getD k ⟨#[]⟩ := by
  simp only [List.getD_eq_getElem?_getD, List.getElem?_set]
  split
  · next e => subst e; rfl
  · rfl
/-- all writes are kept -/
theorem crashL_all (d : Dsk) (keep : List Bool) (h : rightD d = true) (k : Nat) : ∀ n, n ≤ d.pend.length → (∀ i, i < n → keep.getD i false = true) → (crashL d keep n).getD k ⟨#[]⟩ = tellsL d k n
  | 0, _, _ => rfl
  | n + 1, hn, hk => by
    have hr := right_pend d h n (by omega)
    rw [crashL, if_pos (hk n (by omega)), getD_set _ _ _ _ (by rw [crashL_len]; omega), crashL_all d keep h k n (by omega) (fun i hi => hk i (by omega)), tellsL]
    by_cases e : (d.pend.getD n wrtZ).sector = k
    · rw [if_pos e, if_pos (by omega)]
    · rw [if_neg e, if_neg (by omega)]
/-- each sector is what it was, or what one of its writes has -/
theorem crashL_whole (d : Dsk) (keep : List Bool) (h : rightD d = true) (k : Nat) : ∀ n, n ≤ d.pend.length → (crashL d keep n).getD k ⟨#[]⟩ = d.secs.getD k ⟨#[]⟩ ∨ ∃ j, j < n ∧ (d.pend.getD j wrtZ).sector = k ∧ (d.pend.getD j wrtZ).bytes = (crashL d keep n).getD k ⟨#[]⟩
  | 0, _ => .inl rfl
  | n + 1, hn => by
    have hr := right_pend d h n (by omega)
    have ih := crashL_whole d keep h k n (by omega)
    rw [crashL]
    split
    · rw [getD_set _ _ _ _ (by rw [crashL_len]; omega)]
      split
      · exact .inr ⟨n, by omega, by omega, rfl⟩
      · rcases ih with e | ⟨j, h1, h2, h3⟩
        · exact .inl e
        · exact .inr ⟨j, by omega, h2, h3⟩
    · rcases ih with e | ⟨j, h1, h2, h3⟩
      · exact .inl e
      · exact .inr ⟨j, by omega, h2, h3⟩
end SDiskM
section SDiskW
open Go.RowKit
set_option linter.unusedVariables false

theorem IsDisk.secs {w : World} {sv pv : Value} {d : Dsk} (h : IsDisk w (.agg #[sv, pv]) d) : IsStrs w sv d.secs := by
  obtain ⟨s, p, hv, h1, h2⟩ := h
  injection hv with hv
  have : sv = s := by have := congrArg (fun z : Array Value => z[0]?) hv; simpa using this
  rw [this]; exact h1
theorem IsDisk.pend {w : World} {sv pv : Value} {d : Dsk} (h : IsDisk w (.agg #[sv, pv]) d) : IsWrts w pv d.pend := by
  obtain ⟨s, p, hv, h1, h2⟩ := h
  injection hv with hv
  have : pv = p := by have := congrArg (fun z : Array Value => z[1]?) hv; simpa using this
  rw [this]; exact h2
theorem strs_len {w : World} {a : Option Addr} {n c : Nat} {l : List ByteArray} (h : IsStrs w (.slice a n c) l) : l.length = n := by
  obtain ⟨_, _, _, e, h1, _⟩ := h
  injection e with e1 e2 e3
  exact h1.trans e2.symm
theorem wrts_len {w : World} {a : Option Addr} {n c : Nat} {l : List Wrt} (h : IsWrts w (.slice a n c) l) : l.length = n := by
  obtain ⟨_, _, _, e, h1, _⟩ := h
  injection e with e1 e2 e3
  exact h1.trans e2.symm
theorem strs_at {w : World} {a : Option Addr} {n c : Nat} {l : List ByteArray} (h : IsStrs w (.slice a n c) l) :
    n = 0 ∨ ∃ g off, a = some ⟨g, off, none⟩ ∧ g < w.heap.size ∧ ∀ i, i < n → w.cell? ⟨g, off + i, none⟩ = some (.string (l.getD i ByteArray.empty)) := by
  obtain ⟨_, _, _, e, _, _, _, _, h1⟩ := h
  injection e with e1 e2 e3
  subst e1 e2
  exact h1
theorem wrts_at {w : World} {a : Option Addr} {n c : Nat} {l : List Wrt} (h : IsWrts w (.slice a n c) l) :
    n = 0 ∨ ∃ g off, a = some ⟨g, off, none⟩ ∧ g < w.heap.size ∧ ∀ i, i < n → WrtAt w g (off + i * 2) (l.getD i wrtZ) := by
  obtain ⟨_, _, _, e, _, _, _, _, h1⟩ := h
  injection e with e1 e2 e3
  subst e1 e2
  exact h1
theorem noBools (w : World) : IsBools w (.slice none 0 0) [] := ⟨none, 0, 0, rfl, rfl, by omega, by omega, .inl rfl⟩
theorem infoBl : (Tryz.prog.info? 4).map (fun i => (i.zero, i.size, i.bytes)) = some (some (.bool false), 1, 1) := by kernel_rfl
def falses (k : Nat) : List Bool := List.replicate k false
theorem make_bls (k : Nat) (hk : k ≤ 100000) : ∀ u : World, (Instr.makeSlice 52 (.int .i64 (k : Int)) (.int .i64 (k : Int))).run Tryz.prog u =
      .ok (.slice (some ⟨u.heap.size, 0, none⟩) k k) (u.alloc (.cells ((falses k).map Value.bool).toArray 4)) := fun u => by
  obtain ⟨i0, hi, hz0, hz1, hz2⟩ := info_parts infoBl
  have h := run_make (P := Tryz.prog) u 52 4 i0 (.bool false) Tryz.underlying52 hi hz0 .i64 .i64 (k : Int) (k : Int) (by omega) (Int.le_refl _) (by rw [hz2]; omega) (by omega)
  have hm : madeCells #[Value.bool false] k = ((falses k).map Value.bool).toArray := by
    unfold falses; rw [fill_zero (.bool false) k, fill]; simp
  simpa [hz1, Value.cells, hm] using h
end SDiskW
section SRef03C
open Go.RowKit
set_option linter.unusedVariables false

theorem own_keep {w w' : World} {base : Nat} {e : TypeId} {size : Nat} {v : Value} {n : Nat} {xs : List Value} (h : w.ownsRow base e size v n xs) (hb : Below w.heap.size w w') : w'.ownsRow base e size v n xs := by
  refine ⟨h.1, h.2.imp id ?_⟩
  rintro ⟨g, cap, cur, h1, h2, h3, h4⟩
  exact ⟨g, cap, cur, h1, h2, (hb.block g (Array.getElem?_eq_some_iff.1 h3).1).trans h3, h4⟩
theorem wrts_bnd {w : World} {v : Value} {l : List Wrt} (h : IsWrts w v l) : ∀ i ∈ l, i.bounded := by
  obtain ⟨_, _, _, _, _, _, _, h1, _⟩ := h
  exact h1
theorem strs_bnd {w : World} {v : Value} {l : List ByteArray} (h : IsStrs w v l) : ∀ s ∈ l, s.size ≤ 9223372036854775807 := by
  obtain ⟨_, _, _, _, _, _, _, h1, _⟩ := h
  exact h1
theorem own_form {w : World} {base : Nat} {e : TypeId} {size : Nat} {v : Value} {n : Nat} {xs : List Value} (h : w.ownsRow base e size v n xs) : ∃ a c, v = .slice a n c := by
  rcases h.2 with ⟨rfl, rfl⟩ | ⟨g, cap, cur, rfl, _⟩
  · exact ⟨_, _, rfl⟩
  · exact ⟨_, _, rfl⟩
def crS (d : Dsk) (K : List Bool) (n k : Nat) : List ByteArray := (List.range k).map fun j => (crashL d K n).getD j ⟨#[]⟩
theorem crS_snoc (d : Dsk) (K : List Bool) (n k : Nat) : crS d K n (k + 1) = crS d K n k ++ [(crashL d K n).getD k ⟨#[]⟩] := by
  simp [crS, List.range_succ]
theorem range_getD (l : List ByteArray) : (List.range l.length).map (fun j => l.getD j ⟨#[]⟩) = l := by
  apply List.ext_getElem
  · simp
  · intro i h1 h2
    simp [List.getD, h2]
theorem crS_all (d : Dsk) (K : List Bool) (n : Nat) : crS d K n d.secs.length = crashL d K n := by
  have h := range_getD (crashL d K n)
  rwa [crashL_len] at h
theorem infoStr3 : (Tryz.prog.info? 9).map (fun i => (i.zero, i.size, i.bytes)) = some (some (.string ⟨#[]⟩), 1, 16) := by kernel_rfl
set_option maxRecDepth 100000 in
set_option maxHeartbeats 1000000 in
theorem refCrash_any (v kv : Value) (d : Dsk) (all : Bool) (keep K : List Bool) (w : World) (h : IsDisk w v d) (hk : IsBools w kv keep) (hr : rightD d = true) (hK : ∀ t, t < d.pend.length → K.getD t false = (all || keep.getD t false)) :
    Calls Tryz.prog 93 #[v, .bool all, kv] w fun e w' => ∃ v', e = .returned v' ∧ IsDisk w' v' ⟨crashL d K d.pend.length, []⟩ ∧ Below w.heap.size w w' := by
  obtain ⟨i0, hi, hz0, hz1, hz2⟩ := info_parts infoStr3
  have hrl := right_len d hr
  obtain ⟨a, cap, a', cap', rfl, hc1, hc2, hc1', hc2'⟩ := h.form
  have hs := strs_at h.secs; have hp := wrts_at h.pend
  obtain ⟨ka, kn, kc, rfl, hkn, hkc1, hkc2, hkat⟩ := hk
  generalize hm : d.secs.length = m at *
  generalize hn : d.pend.length = n at *
  have hnI : (n : Int) ≤ 9223372036854775807 := by omega
  have hmI : (m : Int) ≤ 256 := by omega
  have hkI : (kn : Int) ≤ 9223372036854775807 := by omega
  have HSC := Lib.hid hs; have HP := Lib.hid hp; have HN := Lib.hid hn; have HM := Lib.hid hm; have HK := Lib.hid hK; have HKA := Lib.hid hkat; have HKN := Lib.hid hkn; have HRP := Lib.hid (right_pend d hr); have HD := Lib.hid h
  clear hs hp hn hm hK hkat hkn h hr
  go_enter Tryz.func93, Tryz.ntmps93
  go_wp2_with fail
  have hA : (((w.alloc (.cells #[.slice a m cap, .slice a' n cap'] 25)).alloc (.cells #[.slice none 0 0, .slice none 0 0] 25)).alloc (.cells #[.slice none 0 0, .slice none 0 0] 25)).heap[w.heap.size]? = some (.cells #[.slice a m cap, .slice a' n cap'] 25 (0, 0)) := by
    exact (Below.heap_alloc _ _ _ (by simp; omega)).trans ((Below.heap_alloc _ _ _ (by simp)).trans (heap_alloc_new w _))
  have hB : (((w.alloc (.cells #[.slice a m cap, .slice a' n cap'] 25)).alloc (.cells #[.slice none 0 0, .slice none 0 0] 25)).alloc (.cells #[.slice none 0 0, .slice none 0 0] 25)).heap[w.heap.size + 1]? = some (.cells #[.slice none 0 0, .slice none 0 0] 25 (0, 0)) := by
    refine (Below.heap_alloc _ _ _ (by simp)).trans ?_
    have := heap_alloc_new (w.alloc (.cells #[.slice a m cap, .slice a' n cap'] 25)) (.cells #[.slice none 0 0, .slice none 0 0] 25)
    rwa [World.size_alloc] at this
  have hC : (((w.alloc (.cells #[.slice a m cap, .slice a' n cap'] 25)).alloc (.cells #[.slice none 0 0, .slice none 0 0] 25)).alloc (.cells #[.slice none 0 0, .slice none 0 0] 25)).heap[w.heap.size + 1 + 1]? = some (.cells #[.slice none 0 0, .slice none 0 0] 25 (0, 0)) := by
    have := heap_alloc_new ((w.alloc (.cells #[.slice a m cap, .slice a' n cap'] 25)).alloc (.cells #[.slice none 0 0, .slice none 0 0] 25)) (.cells #[.slice none 0 0, .slice none 0 0] 25)
    simpa using this
  have hb3 : Below w.heap.size w (((w.alloc (.cells #[.slice a m cap, .slice a' n cap'] 25)).alloc (.cells #[.slice none 0 0, .slice none 0 0] 25)).alloc (.cells #[.slice none 0 0, .slice none 0 0] 25)) := ((((Below.refl _ w).alloc (Nat.le_refl _) _).alloc (by simp) _).alloc (by simp; omega) _)
  have hsz : (((w.alloc (.cells #[.slice a m cap, .slice a' n cap'] 25)).alloc (.cells #[.slice none 0 0, .slice none 0 0] 25)).alloc (.cells #[.slice none 0 0, .slice none 0 0] 25)).heap.size = w.heap.size + 1 + 1 + 1 := by simp
  obtain ⟨w3, hW3⟩ : ∃ w3, (((w.alloc (.cells #[.slice a m cap, .slice a' n cap'] 25)).alloc (.cells #[.slice none 0 0, .slice none 0 0] 25)).alloc (.cells #[.slice none 0 0, .slice none 0 0] 25)) = w3 := ⟨_, rfl⟩
  rw [hW3] at hA hB hC hb3 hsz ⊢
  have HC0 := Lib.hid hC
  clear hW3 hC
  go_loopw [17] (fun z wr => ∃ (k : Nat) (vo : Value), k ≤ m ∧ z = .int .i64 k ∧ wr.heap[w.heap.size]? = some (.cells #[.slice a m cap, .slice a' n cap'] 25 (0, 0)) ∧ wr.heap[w.heap.size + 1]? = some (.cells #[.slice none 0 0, .slice none 0 0] 25 (0, 0)) ∧ wr.heap[w.heap.size + 1 + 1]? = some (.cells #[vo, .slice none 0 0] 25 (0, 0)) ∧ wr.ownsRow (w.heap.size + 1 + 1 + 1) 9 1 vo k ((crS d K n k).map .string) ∧ Below w.heap.size w wr ∧ w.heap.size + 1 + 1 + 1 ≤ wr.heap.size) (fun z _ => m - (intOf z).toNat)
  case atStart => exact ⟨0, _, by omega, rfl, hA, hB, HC0.out, World.ownsRow_nil _ _ _ _, hb3, by omega⟩
  case round =>
    clear hA hB HC0 hb3 hsz
    obtain ⟨k, vo, hk, rfl, hA, hB, hC, hown, hbw, hsz⟩ := hrel
    obtain ⟨va, vc, rfl⟩ := own_form hown
    have HO := Lib.hid hown
    clear hown
    have a0 := below_cell (Below.refl _ wr) hA 0 rfl
    have a1 := below_cell (Below.refl _ wr) hA 1 rfl
    by_cases hlt : k < m
    · have hltI : (k : Int) < m := by omega
      obtain ⟨g, off, rfl, hg, hat⟩ := HSC.out.resolve_left (by omega)
      have c0 := (hbw.cell (p := ⟨g, off + k, none⟩) hg).trans (hat k hlt)
      obtain ⟨Z, hZ⟩ : ∃ Z, d.secs.getD k ByteArray.empty = Z := ⟨_, rfl⟩
      rw [hZ] at c0
      have HZ := Lib.hid hZ
      clear hat hZ
      go_wp2_with fail
      generalize wr = wo at *
      clear a0 a1 c0
      go_loopw [9, 25] (fun s z wr => ∃ t : Nat, t ≤ n ∧ z = .int .i64 t ∧ s = .string ((crashL d K t).getD k ⟨#[]⟩) ∧ Below wo.heap.size wo wr) (fun _ z _ => n - (intOf z).toNat)
      case atStart => exact ⟨0, by omega, rfl, by rw [show (crashL d K 0).getD k ⟨#[]⟩ = Z from HZ.out], Below.refl _ _⟩
      case round =>
        obtain ⟨t, ht, rfl, rfl, hbx⟩ := hrel
        by_cases hlt' : t < n
        · have htI : (t : Int) < n := by omega
          obtain ⟨gp, op, rfl, hgp, hcp⟩ := HP.out.resolve_left (by omega)
          have hbwx := hbw.trans (hbx.mono hbw.size)
          obtain ⟨p0, p1⟩ := (hcp t hlt').below hbwx hgp
          have hnx : (crashL d K (t + 1)).getD k ⟨#[]⟩ = if K.getD t false = true then (if (d.pend.getD t wrtZ).sector = k then (d.pend.getD t wrtZ).bytes else (crashL d K t).getD k ⟨#[]⟩) else (crashL d K t).getD k ⟨#[]⟩ := by
            have hrp := HRP.out t (by rw [HN.out]; exact hlt')
            rw [crashL]
            split
            · rw [getD_set _ _ _ _ (by rw [crashL_len]; omega)]
              by_cases e : (d.pend.getD t wrtZ).sector = k
              · rw [if_pos e, if_pos (by omega)]
              · rw [if_neg e, if_neg (by omega)]
            · rfl
          obtain ⟨P, hP⟩ : ∃ P, d.pend.getD t wrtZ = P := ⟨_, rfl⟩
          rw [hP] at p0 p1 hnx
          generalize (crashL d K t).getD k ⟨#[]⟩ = S at *
          have HNX := Lib.hid hnx
          have hb2 := hbx.alloc hbx.size (.cells #[.int .i64 P.sector, .string P.bytes] 46)
          clear hcp hP hnx
          cases all
          · by_cases hkk : t < kn
            · have hkkI : (t : Int) < kn := by omega
              obtain ⟨kb, ko, rfl, hkb, hka⟩ := HKA.out.resolve_left (by have := HKN.out; intro e; rw [e] at this; simp at this; omega)
              have hkl : t < keep.length := by rw [HKN.out]; exact hkk
              have hk1 := hka t hkl
              obtain ⟨B, hB⟩ : ∃ B, keep[t] = B := ⟨_, rfl⟩
              rw [hB] at hk1
              have hk2 := fun o : Obj => (World.cell?_of_block (a := ⟨kb, ko + t, none⟩) (Below.heap_alloc wr o kb (Nat.lt_of_lt_of_le hkb hbwx.size))).trans ((hbwx.cell (p := ⟨kb, ko + t, none⟩) hkb).trans hk1)
              have hgd : keep.getD t false = B := by rw [← hB]; simp [List.getD, hkl]
              clear hka hk1 hbwx hbx hB
              cases B
              · have hkt : K.getD t false = false := by rw [HK.out t hlt']; rw [hgd]; rfl
                by_cases he : P.sector = (k : Nat)
                · have hres : (crashL d K (t + 1)).getD k ⟨#[]⟩ = S := by rw [HNX.out, hkt]; first | exact (if_pos rfl).trans (if_pos he) | exact (if_pos rfl).trans (if_neg he) | exact if_neg (by decide)
                  have HRES := Lib.hid hres
                  have hb2' := hb2
                  rw [he] at p0 hb2'
                  clear hkt hres hb2
                  go_wp2_with fail
                  go_roundw
                  case rel => exact ⟨t + 1, by omega, by go_num, by rw [HRES.out], hb2'⟩
                  case measure => simp [intOf]; omega
                · have hres : (crashL d K (t + 1)).getD k ⟨#[]⟩ = S := by rw [HNX.out, hkt]; first | exact (if_pos rfl).trans (if_pos he) | exact (if_pos rfl).trans (if_neg he) | exact if_neg (by decide)
                  have hse : (P.sector == (k : Int)) = false := by simpa using he
                  have HRES := Lib.hid hres
                  clear hkt hres
                  go_wp2_with fail
                  go_roundw
                  case rel => exact ⟨t + 1, by omega, by go_num, by rw [HRES.out], hb2⟩
                  case measure => simp [intOf]; omega
              · have hkt : K.getD t false = true := by rw [HK.out t hlt']; rw [hgd]; rfl
                by_cases he : P.sector = (k : Nat)
                · have hres : (crashL d K (t + 1)).getD k ⟨#[]⟩ = P.bytes := by rw [HNX.out, hkt]; first | exact (if_pos rfl).trans (if_pos he) | exact (if_pos rfl).trans (if_neg he) | exact if_neg (by decide)
                  have HRES := Lib.hid hres
                  have hb2' := hb2
                  rw [he] at p0 hb2'
                  clear hkt hres hb2
                  go_wp2_with fail
                  go_roundw
                  case rel => exact ⟨t + 1, by omega, by go_num, by rw [HRES.out], hb2'⟩
                  case measure => simp [intOf]; omega
                · have hres : (crashL d K (t + 1)).getD k ⟨#[]⟩ = S := by rw [HNX.out, hkt]; first | exact (if_pos rfl).trans (if_pos he) | exact (if_pos rfl).trans (if_neg he) | exact if_neg (by decide)
                  have hse : (P.sector == (k : Int)) = false := by simpa using he
                  have HRES := Lib.hid hres
                  clear hkt hres
                  go_wp2_with fail
                  go_roundw
                  case rel => exact ⟨t + 1, by omega, by go_num, by rw [HRES.out], hb2⟩
                  case measure => simp [intOf]; omega
            · have hkkI : (kn : Int) ≤ t := by omega
              have hgd : keep.getD t false = false := by have := HKN.out; simp [List.getD, show ¬ t < keep.length by omega]
              clear hbwx hbx
              have hkt : K.getD t false = false := by rw [HK.out t hlt']; rw [hgd]; rfl
              by_cases he : P.sector = (k : Nat)
              · have hres : (crashL d K (t + 1)).getD k ⟨#[]⟩ = S := by rw [HNX.out, hkt]; first | exact (if_pos rfl).trans (if_pos he) | exact (if_pos rfl).trans (if_neg he) | exact if_neg (by decide)
                have HRES := Lib.hid hres
                have hb2' := hb2
                rw [he] at p0 hb2'
                clear hkt hres hb2
                go_wp2_with fail
                go_roundw
                case rel => exact ⟨t + 1, by omega, by go_num, by rw [HRES.out], hb2'⟩
                case measure => simp [intOf]; omega
              · have hres : (crashL d K (t + 1)).getD k ⟨#[]⟩ = S := by rw [HNX.out, hkt]; first | exact (if_pos rfl).trans (if_pos he) | exact (if_pos rfl).trans (if_neg he) | exact if_neg (by decide)
                have hse : (P.sector == (k : Int)) = false := by simpa using he
                have HRES := Lib.hid hres
                clear hkt hres
                go_wp2_with fail
                go_roundw
                case rel => exact ⟨t + 1, by omega, by go_num, by rw [HRES.out], hb2⟩
                case measure => simp [intOf]; omega
          · clear hbwx hbx
            have hkt : K.getD t false = true := by rw [HK.out t hlt']; rfl
            by_cases he : P.sector = (k : Nat)
            · have hres : (crashL d K (t + 1)).getD k ⟨#[]⟩ = P.bytes := by rw [HNX.out, hkt]; first | exact (if_pos rfl).trans (if_pos he) | exact (if_pos rfl).trans (if_neg he) | exact if_neg (by decide)
              have HRES := Lib.hid hres
              have hb2' := hb2
              rw [he] at p0 hb2'
              clear hkt hres hb2
              go_wp2_with fail
              go_roundw
              case rel => exact ⟨t + 1, by omega, by go_num, by rw [HRES.out], hb2'⟩
              case measure => simp [intOf]; omega
            · have hres : (crashL d K (t + 1)).getD k ⟨#[]⟩ = S := by rw [HNX.out, hkt]; first | exact (if_pos rfl).trans (if_pos he) | exact (if_pos rfl).trans (if_neg he) | exact if_neg (by decide)
              have hse : (P.sector == (k : Int)) = false := by simpa using he
              have HRES := Lib.hid hres
              clear hkt hres
              go_wp2_with fail
              go_roundw
              case rel => exact ⟨t + 1, by omega, by go_num, by rw [HRES.out], hb2⟩
              case measure => simp [intOf]; omega
        · obtain rfl : t = n := by omega
          have hszx := Nat.le_trans hsz hbx.size
          have hAx := (hbx.block _ (Array.getElem?_eq_some_iff.1 hA).1).trans hA
          have hBx := (hbx.block _ (Array.getElem?_eq_some_iff.1 hB).1).trans hB
          have hCx := (hbx.block _ (Array.getElem?_eq_some_iff.1 hC).1).trans hC
          have hbwx := hbw.trans (hbx.mono hbw.size)
          have hown := own_keep HO.out hbx
          have hbb := Below.refl (w.heap.size + 1 + 1 + 1) wr
          have x0 := below_cell (Below.refl _ wr) hCx 0 rfl
          have hsn := crS_snoc d K t k
          obtain ⟨S, hS⟩ : ∃ S, (crashL d K t).getD k ⟨#[]⟩ = S := ⟨_, rfl⟩
          rw [hS] at hsn ⊢
          have HSN := Lib.hid hsn
          clear hS hsn hA hB hC hbw hbx hsz
          go_wp2_with (first | (at_builtin; go_must (refine wpList_push _ _ 22 9 hown hbb hszx Tryz.underlying22 hi hz0 hz1 hz2 rfl (by decide) rfl rfl rfl rfl rfl ?c3 ?c4 ?_)))
          case c3 => intro u hu; rw [List.mem_singleton.1 hu]; rfl
          case c4 => omega
          intro v' w1 hown1 hbel1
          obtain ⟨na, nc, rfl⟩ := own_form hown1
          have hA1 := (hbel1.block _ (show w.heap.size < w.heap.size + 1 + 1 + 1 by omega)).trans hAx
          have hB1 := (hbel1.block _ (show w.heap.size + 1 < w.heap.size + 1 + 1 + 1 by omega)).trans hBx
          have hC1 := (hbel1.block _ (show w.heap.size + 1 + 1 < w.heap.size + 1 + 1 + 1 by omega)).trans hCx
          have hw1 := hbwx.trans (hbel1.mono (show w.heap.size ≤ w.heap.size + 1 + 1 + 1 by omega))
          have hsz1 := Nat.le_trans hszx hbel1.size
          have x0' := below_cell (Below.refl _ w1) hC1 0 rfl
          have f0 := block_frozen hC1 0
          have hC2 := block_set hC1 0 (.slice na (k + 1) nc)
          have HC2 := Lib.hid hC2; have HOW := Lib.hid hown1
          clear hown hbb x0 hCx hAx hBx hbwx hbel1 hC2 hown1
          go_wp2_with fail
          go_roundw
          case rel =>
            refine ⟨k + 1, (.slice na (k + 1) nc), by omega, by go_num, (Below.heap_setCell _ _ _ _ (show w.heap.size ≠ w.heap.size + 1 + 1 by omega)).trans hA1, (Below.heap_setCell _ _ _ _ (show w.heap.size + 1 ≠ w.heap.size + 1 + 1 by omega)).trans hB1, HC2.out, ?_, hw1.setCell (p := ⟨w.heap.size + 1 + 1, 0, none⟩) (by simp; omega) _, by simp; omega⟩
            rw [HSN.out, List.map_append, List.map_cons, List.map_nil]
            exact ownsRow_setCell_below HOW.out (a := ⟨w.heap.size + 1 + 1, 0, none⟩) (by simp) (.slice na (k + 1) nc)
          case measure => simp [intOf]; omega
    · obtain rfl : k = m := by omega
      have x0 := below_cell (Below.refl _ wr) hC 0 rfl
      have x1 := below_cell (Below.refl _ wr) hC 1 rfl
      have y0 := below_cell (Below.refl _ wr) hB 0 rfl
      have y1 := below_cell (Below.refl _ wr) hB 1 rfl
      have f0 := block_frozen hB 0
      have f1 := block_frozen hB 1
      have hB2 := block_set (block_set hB 0 (.slice va k vc)) 1 (.slice none 0 0)
      have hw2 := (hbw.setCell (p := ⟨w.heap.size + 1, 0, none⟩) (by simp) (.slice va k vc)).setCell (p := ⟨w.heap.size + 1, 1, none⟩) (by simp) (.slice none 0 0)
      have HB2 := Lib.hid hB2
      clear hB2 a0 a1 hA hB hC hsz hbw
      go_wp2_with fail
      refine bodyPost_ret (results_cell_row rfl _ _ (w.heap.size + 1) _ _ _ _ rfl HB2.out Tryz.underlying25 rfl (by kernel_rfl)) rfl ⟨_, rfl, ⟨_, _, rfl, ?_, nilWrts _⟩, hw2⟩
      have h1 := ownsRow_setCell_below (ownsRow_setCell_below HO.out (a := ⟨w.heap.size + 1, 0, none⟩) (show w.heap.size + 1 < w.heap.size + 1 + 1 + 1 by omega) (.slice va k vc)) (a := ⟨w.heap.size + 1, 1, none⟩) (show w.heap.size + 1 < w.heap.size + 1 + 1 + 1 by omega) (.slice none 0 0)
      have h2 := crS_all d K n
      rw [HM.out] at h2
      rw [h2] at h1
      have hbd := HD.out
      exact own_strs h1 (crashL_bnd d K (wrts_bnd hbd.pend) (strs_bnd hbd.secs) n (by rw [HN.out]; exact Nat.le_refl _))
end SRef03C
section SWcells
open Go.RowKit
set_option linter.unusedVariables false

def wcells : List Wrt → List Value
  | [] => []
  | x :: l => .int .i64 x.sector :: .string x.bytes :: wcells l
theorem wcells_len : ∀ l : List Wrt, (wcells l).length = l.length * 2
  | [] => rfl
  | x :: l => by simp only [wcells, List.length_cons, wcells_len l]; omega
theorem wcells_append : ∀ l m : List Wrt, wcells (l ++ m) = wcells l ++ wcells m
  | [], m => rfl
  | x :: l, m => by simp only [List.cons_append, wcells, wcells_append l m]
theorem wcells_one : ∀ (l : List Wrt), ∀ u ∈ wcells l, u.oneCell' = true
  | [], u, h => by cases h
  | x :: l, u, h => by
    simp only [wcells, List.mem_cons] at h
    rcases h with rfl | rfl | h
    · rfl
    · rfl
    · exact wcells_one l u h
theorem wcells_get : ∀ (l : List Wrt) (i : Nat), i < l.length → (wcells l)[i * 2]? = some (.int .i64 (l.getD i wrtZ).sector) ∧ (wcells l)[i * 2 + 1]? = some (.string (l.getD i wrtZ).bytes)
  | x :: l, 0, _ => ⟨rfl, rfl⟩
  | x :: l, i + 1, h => by
    have ih := wcells_get l i (by simpa using h)
    have e1 : (i + 1) * 2 = i * 2 + 1 + 1 := by omega
    rw [e1]
    exact ih
theorem wcells_at : ∀ (l : List Wrt) (j : Nat) (u : Value), (wcells l)[j]? = some u → ∃ i, i < l.length ∧ ((j = i * 2 ∧ u = .int .i64 (l.getD i wrtZ).sector) ∨ (j = i * 2 + 1 ∧ u = .string (l.getD i wrtZ).bytes))
  | x :: l, 0, u, h => ⟨0, by simp, .inl ⟨rfl, by simp only [wcells, List.getElem?_cons_zero, Option.some.injEq] at h; exact h.symm⟩⟩
  | x :: l, 1, u, h => ⟨0, by simp, .inr ⟨rfl, by simp only [wcells, List.getElem?_cons_succ, List.getElem?_cons_zero, Option.some.injEq] at h; exact h.symm⟩⟩
  | x :: l, j + 2, u, h => by
    have h' : (wcells l)[j]? = some u := h
    obtain ⟨i, hi, hh⟩ := wcells_at l j u h'
    refine ⟨i + 1, by simpa using hi, ?_⟩
    rcases hh with ⟨e1, e2⟩ | ⟨e1, e2⟩
    · exact .inl ⟨by omega, e2⟩
    · exact .inr ⟨by omega, e2⟩
theorem own_wrts {w : World} {base : Nat} {e : TypeId} {v : Value} {n : Nat} {l : List Wrt} (h : w.ownsRow base e 2 v n (wcells l)) (hs : ∀ s ∈ l, s.bounded) : IsWrts w v l := by
  have hlen : l.length = n := by have := h.1; rw [wcells_len] at this; omega
  have hcells := fun g => h.cells (g := g)
  rcases h.2 with ⟨rfl, h0⟩ | ⟨g, cap, cur, rfl, hb, hg, hnc, hcm, hsz, htk⟩
  · subst h0
    obtain rfl : l = [] := List.length_eq_zero_iff.1 hlen
    exact nilWrts w
  · refine ⟨_, _, _, rfl, hlen, hnc, by unfold maxLen at hcm; omega, hs, .inr ⟨g, 0, rfl, (Array.getElem?_eq_some_iff.1 hg).1, fun i hi => ?_⟩⟩
    obtain ⟨h1, h2⟩ := wcells_get l i (by omega)
    have c1 := hcells g rfl _ _ h1
    have c2 := hcells g rfl _ _ h2
    rw [addr_add] at c1 c2
    exact ⟨c1, c2⟩
theorem infoWrt : (Tryz.prog.info? 46).map (fun i => (i.zero, i.size, i.bytes)) = some (some (.agg #[.int .i64 0, .string ⟨#[]⟩]), 2, 24) := by kernel_rfl
end SWcells
end Go.Proofs.YthnmnnlbglpjaaaGreatDoor
