/- A new row, and a copied one. -/
import Derived.Test.YtimiooiaohfelaaDoorRoomR
import Derived.Laws.MakeOwn
import Derived.Laws.CopyOwn
namespace Go.Proofs.YtimiooiaohfelaaDoor
open Go.RowKit
set_option linter.unusedVariables false

theorem infoBool : (Tryd.prog.info? 4).map (fun i => (i.zero, i.size, i.bytes)) = some (some (.bool false), 1, 1) := by kernel_rfl
def newK (n k : Nat) : List Bool := (List.range n).map fun i => decide (i < k)
def newL (n : Nat) : List Bool := newK n 54
theorem newK_len (n k : Nat) : (newK n k).length = n := by simp [newK]
theorem newK_zero (n : Nat) : newK n 0 = List.replicate n false := by
  rw [List.eq_replicate_iff]
  refine ⟨newK_len n 0, fun b hb => ?_⟩
  obtain ⟨i, _, rfl⟩ := List.mem_map.1 hb
  simp
theorem newK_get (n k : Nat) (h : k < n) : (((newK n k).map Value.bool).toArray)[k]? = some (.bool false) := by
  simp [newK, h]
theorem newK_set (n k : Nat) (h : k < n) : (((newK n k).map Value.bool).toArray).setIfInBounds k (.bool true) = ((newK n (k + 1)).map Value.bool).toArray := by
  rw [arr_set]
  congr 2
  apply List.ext_getElem
  · simp [newK]
  · intro i h1 h2
    simp only [newK, List.getElem_set, List.getElem_map, List.getElem_range]
    by_cases hk : k = i
    · subst hk; simp
    · rw [if_neg hk]
      congr 1
      simp only [eq_iff_iff]
      omega
def BoolsPost (E : Int) (l : List Bool) (w : World) (e : Ending) (w' : World) : Prop := ∃ v, e = .returned (.tuple #[v, .int .i64 E]) ∧ IsBools w' v l ∧ Below w.heap.size w w'
theorem bools_nil (w : World) : IsBools w (.slice none 0 0) [] := ⟨none, 0, 0, rfl, rfl, by omega, by omega, .inl rfl⟩
theorem made_bools (n : Nat) : madeCells #[Value.bool false] n = ((newK n 0).map Value.bool).toArray := by
  rw [fill_zero (.bool false) n, fill, newK_zero]
  simp
theorem make_bools (k : Nat) (hk : k ≤ 100000) : ∀ u : World, (Instr.makeSlice 42 (.int .i64 (k : Int)) (.int .i64 (k : Int))).run Tryd.prog u =
      .ok (.slice (some ⟨u.heap.size, 0, none⟩) k k) (u.alloc (.cells ((newK k 0).map Value.bool).toArray 4)) := fun u => by
  obtain ⟨i0, hi, hz0, hz1, hz2⟩ := info_parts infoBool
  have h := run_make (P := Tryd.prog) u 42 4 i0 (.bool false) Tryd.underlying42 hi hz0 .i64 .i64 (k : Int) (k : Int) (by omega) (Int.le_refl _) (by rw [hz2]; omega) (by omega)
  simpa [hz1, Value.cells, made_bools] using h


def OneBools (l : List Bool) (w : World) (e : Ending) (w' : World) : Prop := ∃ v, e = .returned v ∧ IsBools w' v l ∧ Below w.heap.size w w'
def CopyPost (l : List Bool) (w : World) (e : Ending) (w' : World) : Prop :=
  e = .returned (.slice (some ⟨w.heap.size, 0, none⟩) l.length l.length) ∧ w'.heap[w.heap.size]? = some (.cells (l.map Value.bool).toArray 4 (0, 0)) ∧ Below w.heap.size w w'
set_option maxHeartbeats 400000 in
theorem roomCopied_any (v : Value) (l : List Bool) (w : World) (h : IsBools w v l) (hl : l.length ≤ 256) :
    Calls Tryd.prog 52 #[v] w (CopyPost l w) := by
  obtain ⟨a, len, cap, rfl, hlen, hc1, hc2, hat⟩ := h
  have hn1 : (len : Int) ≤ 256 := by omega
  have hmk := make_bools len (by omega)
  have hg := heap_alloc_new w (.cells ((newK len 0).map Value.bool).toArray 4)
  have hb := (Below.refl w.heap.size w).alloc (Nat.le_refl _) (.cells ((newK len 0).map Value.bool).toArray 4)
  have hpos : 0 < (l.map Value.bool).length → some (⟨w.heap.size, 0, none⟩ : Addr) = some ⟨w.heap.size, 0, none⟩ ∧ ∃ ad, a = some ad ∧ ∀ j v, (l.map Value.bool)[j]? = some v → (w.alloc (.cells ((newK len 0).map Value.bool).toArray 4)).cell? (ad.add j) = some v := by
    intro hp
    refine ⟨rfl, ?_⟩
    obtain ⟨b, off, rfl, hbl, hat⟩ := hat.resolve_left (by simp at hp; omega)
    refine ⟨_, rfl, fun j v hj => ?_⟩
    have hjl : j < l.length := by have := (List.getElem?_eq_some_iff.1 hj).1; simpa using this
    have hv : v = .bool l[j] := by
      rw [List.getElem?_map, List.getElem?_eq_getElem hjl] at hj
      simpa using hj.symm
    rw [addr_add, hv, World.cell?_alloc_lt _ _ _ hbl]
    exact hat j hjl
  have hone : ∀ v ∈ l.map Value.bool, v.oneCell' = true := by
    intro v hv
    obtain ⟨b, _, rfl⟩ := List.mem_map.1 hv
    rfl
  have hlm : (l.map Value.bool).length = Nat.min len len := by simp [hlen]
  have hsp : splice ((newK len 0).map Value.bool) 0 (l.map Value.bool) = l.map Value.bool := by
    unfold splice
    simp [newK_len, hlen]
  have HG := Lib.hid hg; have HB := Lib.hid hb; have HP := Lib.hid hpos; have HO := Lib.hid hone; have HL := Lib.hid hlm; have HS := Lib.hid hsp; have HN := Lib.hid hlen
  have HF : Hid (0 + (l.map Value.bool).length ≤ ((newK len 0).map Value.bool).length) := Lib.hid (by simp [newK_len, hlen])
  clear hg hb hpos hone hlm hsp hat hlen hl
  go_enter Tryd.func52, Tryd.ntmps52
  go_wp2_with (with_reducible refine wpList_copy_splice rfl (.tmp 7) (.tmp 8) 42 42 rfl 4 Tryd.underlying42 (by kernel_rfl) _ _ _ _ _ _ rfl rfl w.heap.size 0 ((newK len 0).map Value.bool) 4 HG.out (l.map Value.bool) HL.out HP.out HF.out HO.out w.heap.size w HB.out (Nat.le_refl _) ?_)
  intro w2 hg2 hb2
  clear hmk
  go_wp2
  go_ret
  refine ⟨by rw [HN.out]; rfl, ?_, hb2⟩
  have := hg2.out
  rwa [HS.out] at this
end Go.Proofs.YtimiooiaohfelaaDoor
