/- A new disk; a disk of few sectors and writes; alive. -/
import Derived.Test.YtabkpoolhcpihaaDoorDiskR
import Derived.Test.YtabkpoolhcpihaaDoorResRow
import Derived.Laws.MakeOwn
namespace Go.Proofs.YtabkpoolhcpihaaDoor
open Go.RowKit
set_option linter.unusedVariables false

theorem infoStr : (Tryd.prog.info? 9).map (fun i => (i.zero, i.size, i.bytes)) = some (some (.string ⟨#[]⟩), 1, 16) := by kernel_rfl
theorem block_strs {w : World} {g : Nat} {t : TypeId} {l : List ByteArray} {cap : Nat} (hc : l.length ≤ cap) (cs : Array Value) (h : w.heap[g]? = some (.cells cs t (0, 0))) (hcs : ∀ i (hi : i < l.length), cs[i]? = some (.string l[i]))
    (hm : cap ≤ 9223372036854775807) (hs : ∀ s ∈ l, s.size ≤ 9223372036854775807) : IsStrs w (.slice (some ⟨g, 0, none⟩) l.length cap) l := by
  refine ⟨_, _, _, rfl, rfl, hc, hm, hs, .inr ⟨g, 0, rfl, (Array.getElem?_eq_some_iff.1 h).1, fun i hi => ?_⟩⟩
  rw [Nat.zero_add, cell_of_row _ _ _ _ _ _ h, hcs i hi]
  simp [List.getD, hi]
theorem nilStrs (w : World) : IsStrs w (.slice none 0 0) [] := ⟨none, 0, 0, rfl, rfl, by omega, by omega, by simp, .inl rfl⟩
theorem nilWrts (w : World) : IsWrts w (.slice none 0 0) [] := ⟨none, 0, 0, rfl, rfl, by omega, by omega, by simp, .inl rfl⟩
def newD (n : Nat) : Dsk := ⟨List.replicate n ⟨#[]⟩, []⟩
def noD : Dsk := ⟨[], []⟩
theorem make_strs (k : Nat) (hk : k ≤ 100000) : ∀ u : World, (Instr.makeSlice 22 (.int .i64 (k : Int)) (.int .i64 (k : Int))).run Tryd.prog u =
      .ok (.slice (some ⟨u.heap.size, 0, none⟩) k k) (u.alloc (.cells (List.replicate k (Value.string ⟨#[]⟩)).toArray 9)) := fun u => by
  obtain ⟨i0, hi, hz0, hz1, hz2⟩ := info_parts infoStr
  have h := run_make (P := Tryd.prog) u 22 9 i0 (.string ⟨#[]⟩) Tryd.underlying22 hi hz0 .i64 .i64 (k : Int) (k : Int) (by omega) (Int.le_refl _) (by rw [hz2]; omega) (by omega)
  have hm : madeCells #[Value.string ⟨#[]⟩] k = (List.replicate k (Value.string ⟨#[]⟩)).toArray := by
    rw [fill_zero (.string ⟨#[]⟩) k, fill]; simp
  simpa [hz1, Value.cells, hm] using h
def DiskPost (E : Int) (d : Dsk) (w : World) (e : Ending) (w' : World) : Prop := ∃ v, e = .returned (.tuple #[v, .int .i64 E]) ∧ IsDisk w' v d ∧ Below w.heap.size w w'
set_option maxRecDepth 100000 in
theorem diskNew_ok (n : Nat) (w : World) (h1 : 1 ≤ n) (h2 : n ≤ 256) : Calls Tryd.prog 17 #[.int .i64 n] w (DiskPost 0 (newD n) w) := by
  have h1I : (1 : Int) ≤ n := by omega
  have h2I : (n : Int) ≤ 256 := by omega
  have hmk := make_strs n (by omega)
  go_enter Tryd.func17, Tryd.ntmps17
  go_wp2_with fail
  refine bodyPost_ret (results_row_tmp rfl _ _ w.heap.size _ _ _ _ rfl (by rw [heap_alloc_old _ _ (by simp)]; exact heap_alloc_new _ _) Tryd.underlying25 rfl (by kernel_rfl)) rfl ⟨_, rfl, ⟨_, _, rfl, ?_, nilWrts _⟩, ((Below.refl _ _).alloc (Nat.le_refl _) _).alloc (by simp) _⟩
  have hb := block_strs (l := (newD n).secs) (w := ((w.alloc (.cells #[.slice (some ⟨w.heap.size + 1, 0, none⟩) n n, .slice none 0 0] 25)).alloc (.cells (Array.replicate n (Value.string ⟨#[]⟩)) 9))) (g := w.heap.size + 1) (t := 9) (cap := n) (by simp [newD]) _
    (by have := heap_alloc_new (w.alloc (.cells #[.slice (some ⟨w.heap.size + 1, 0, none⟩) n n, .slice none 0 0] 25)) (.cells (Array.replicate n (Value.string ⟨#[]⟩)) 9); rwa [World.size_alloc] at this)
    (fun i hi => by simp [newD] at hi ⊢; simp [hi]) (by omega) (fun s hs => by rw [List.eq_of_mem_replicate hs]; show 0 ≤ _; omega)
  rwa [show (newD n).secs.length = n from by simp [newD]] at hb
set_option maxRecDepth 100000 in
theorem diskNew_bad (n : Int) (w : World) (h : ¬ (1 ≤ n ∧ n ≤ 256)) : Calls Tryd.prog 17 #[.int .i64 n] w (DiskPost 1 noD w) := by
  by_cases h1 : 1 ≤ n
  · have h2 : 256 < n := by omega
    clear h
    go_enter Tryd.func17, Tryd.ntmps17
    go_wp2_with fail
    exact bodyPost_ret (results_row_tmp rfl _ _ w.heap.size _ _ _ _ rfl (heap_alloc_new _ _) Tryd.underlying25 rfl (by kernel_rfl)) rfl ⟨_, rfl, ⟨_, _, rfl, nilStrs _, nilWrts _⟩, (Below.refl _ _).alloc (Nat.le_refl _) _⟩
  · have h2 : n < 1 := by omega
    clear h
    go_enter Tryd.func17, Tryd.ntmps17
    go_wp2_with fail
    exact bodyPost_ret (results_row_tmp rfl _ _ w.heap.size _ _ _ _ rfl (heap_alloc_new _ _) Tryd.underlying25 rfl (by kernel_rfl)) rfl ⟨_, rfl, ⟨_, _, rfl, nilStrs _, nilWrts _⟩, (Below.refl _ _).alloc (Nat.le_refl _) _⟩

set_option maxRecDepth 100000 in
theorem diskFew_any (a a' : Option Addr) (len cap len' cap' : Nat) (w : World) (h1 : len ≤ cap) (h2 : cap ≤ 9223372036854775807) (h1' : len' ≤ cap') (h2' : cap' ≤ 9223372036854775807) :
    Calls Tryd.prog 6 #[.agg #[.slice a len cap, .slice a' len' cap']] w fun e w' => e = .returned (.agg #[.slice a (min len 300) cap, .slice a' (min len' 40) cap']) ∧ Below w.heap.size w w' := by
  obtain ⟨m, hm, hm1, hm2, hm3⟩ := min_if len 300 (by omega)
  obtain ⟨k, hk, hk1, hk2, hk3⟩ := min_if len' 40 (by omega)
  have hmm : min (len : Int) 300 = m := by omega
  have hkk : min (len' : Int) 40 = k := by omega
  rw [show min len 300 = m from by omega, show min len' 40 = k from by omega]
  have hmI : (m : Int) ≤ cap := by omega
  have hkI : (k : Int) ≤ cap' := by omega
  have hcI : (cap : Int) ≤ 9223372036854775807 := by omega
  have hcI' : (cap' : Int) ≤ 9223372036854775807 := by omega
  have hlI : (len : Int) ≤ 9223372036854775807 := by omega
  have hlI' : (len' : Int) ≤ 9223372036854775807 := by omega
  clear hm3 hk3
  go_enter Tryd.func6, Tryd.ntmps6
  go_wp2_with fail
  go_region
  go_wp2_with fail
  exact bodyPost_ret (results_cell_row rfl _ _ (w.heap.size + 1) _ _ _ _ rfl (heap_alloc2_new _ _ _) Tryd.underlying25 rfl (by kernel_rfl)) rfl ⟨rfl, (((Below.refl _ _).alloc (Nat.le_refl _) _).alloc (by simp) _).drew⟩
theorem new_right (n : Nat) (h1 : 1 ≤ n) (h2 : n ≤ 256) : rightD (newD n) = true := by
  unfold rightD newD
  have h0 : fitsB ⟨#[]⟩ = true := decide_eq_true ⟨by show 0 ≤ 512; omega, by decide⟩
  have : (List.replicate n (⟨#[]⟩ : ByteArray)).all fitsB = true := List.all_eq_true.2 (fun x hx => by rw [List.eq_of_mem_replicate hx]; exact h0)
  simp only [List.length_replicate, this, List.all_nil, Bool.and_true]
  exact decide_eq_true ⟨h1, h2⟩
set_option maxRecDepth 100000 in
set_option maxHeartbeats 400000 in
theorem diskAlive (w : World) : Calls Tryd.prog 8 #[] w fun e w' => e = .returned (.bool true) ∧ Below w.heap.size w w' := by
  have HN := Lib.hid (fun u => diskNew_ok 3 u (by omega) (by omega))
  have HR := Lib.hid (fun v u hu => diskRight_any v (newD 3) u hu)
  rw [new_right 3 (by omega) (by omega)] at HR
  go_enter Tryd.func8, Tryd.ntmps8
  go_wp2_with fail
  refine (HN.out _).mono ?_
  rintro e w2 ⟨v, he, hd, hw2⟩
  obtain ⟨a, cap, a', cap', rfl, _⟩ := hd.form
  rw [show (newD 3).secs.length = 3 from rfl, show (newD 3).pend.length = 0 from rfl] at hd he
  subst he
  have HD := Lib.hid hd
  clear hd
  go_wp2_with fail
  refine (HR.out _ _ (HD.out.below ((Below.refl _ _).alloc (Nat.le_refl _) _))).mono ?_
  rintro e w3 ⟨rfl, hb3⟩
  have hnc := heap_alloc_new w2 (.cells #[.slice a 3 cap, .slice a' 0 cap'] 25)
  have hz0 : w3.cell? ⟨w2.heap.size, 0, none⟩ = some (.slice a 3 cap) := (hb3.cell (p := ⟨w2.heap.size, 0, none⟩) (Array.getElem?_eq_some_iff.1 hnc).1).trans (by rw [cell_of_row _ _ 0 _ _ _ hnc]; rfl)
  have hw3 := (hw2.alloc hw2.size (.cells #[.slice a 3 cap, .slice a' 0 cap'] 25))
  have hw4 := hw3.trans (hb3.mono hw3.size)
  clear hnc hw3 hb3
  go_wp2_with fail
  go_ret
  exact ⟨rfl, hw4⟩
end Go.Proofs.YtabkpoolhcpihaaDoor
