/- slot.Super, slot.Commit, slot.Head. -/
import Derived.Test.YthnmnnlbglpjaaaDoorSlotT
import Derived.Deep.RegionHeld3
namespace Go.Proofs.YthnmnnlbglpjaaaDoor
open Go.RowKit
set_option linter.unusedVariables false

theorem reads1_one {u : World} {g : Nat} {n : Int} (h : u.cell? ⟨g, 0, none⟩ = some (.int .i64 n)) (hg : g < u.heap.size) : Reads1 encI u (.slice (some ⟨g, 0, none⟩) 1 1) [n] :=
  ⟨_, 1, 1, rfl, rfl, Nat.le_refl _, by omega, .inr ⟨g, 0, rfl, hg, fun i hi => by
    have : i = 0 := by simpa using hi
    subst this
    exact h⟩⟩
theorem reads1_two {u : World} {g : Nat} {n m : Int} (h : u.cell? ⟨g, 0, none⟩ = some (.int .i64 n)) (h1 : u.cell? ⟨g, 1, none⟩ = some (.int .i64 m)) (hg : g < u.heap.size) : Reads1 encI u (.slice (some ⟨g, 0, none⟩) 2 2) [n, m] :=
  ⟨_, 2, 2, rfl, rfl, Nat.le_refl _, by omega, .inr ⟨g, 0, rfl, hg, fun i hi => by
    have : i = 0 ∨ i = 1 := by simp at hi; omega
    rcases this with rfl | rfl
    · exact h
    · exact h1⟩⟩
theorem c_new {u : World} {cs : Array Value} {t : TypeId} {g j : Nat} {v : Value} (hg : g = u.heap.size) (hj : cs[j]? = some v) : (u.alloc (.cells cs t)).cell? ⟨g, j, none⟩ = some v := by
  subst hg
  rw [cell_of_row _ _ j _ _ _ (heap_alloc_new u _)]
  exact hj
theorem c_old {u : World} {o : Obj} {g j : Nat} {v : Value} (hg : g < u.heap.size) (h : u.cell? ⟨g, j, none⟩ = some v) : (u.alloc o).cell? ⟨g, j, none⟩ = some v :=
  (World.cell?_of_block (a := ⟨g, j, none⟩) (heap_alloc_old u o hg)).trans h
theorem drew_size (u : World) : u.drew.heap.size = u.heap.size := rfl
theorem c_drew {u : World} {p : Addr} {v : Value} (h : u.cell? p = some v) : u.drew.cell? p = some v := h
theorem c_call {u w' : World} {g j : Nat} {v : Value} (hb : Below u.heap.size u w') (hg : g < u.heap.size) (h : u.cell? ⟨g, j, none⟩ = some v) : w'.cell? ⟨g, j, none⟩ = some v := (hb.cell (p := ⟨g, j, none⟩) hg).trans h
def superL (n : Int) : List UInt8 := fieldsL 1 [1] ++ fieldsL 6 [n]
def commitL (n s : Int) : List UInt8 := fieldsL 1 [3] ++ fieldsL 6 [n] ++ fieldsL 1 [s]
def headL (n s : Int) (l : List Int) : List UInt8 := fieldsL 1 [2] ++ fieldsL 6 [n] ++ fieldsL 1 [s, (l.length : Int)] ++ fieldsL 2 l
theorem keepSl {w3 u : World} {g : Nat} {x : Value} {t : TypeId} {fr : Nat × Nat} (h : w3.heap[g]? = some (.cells #[x] t fr)) (hb : Below w3.heap.size w3 u) :
    Below w3.heap.size w3 u ∧ u.cell? ⟨g, 0, none⟩ = some x := ⟨hb, below_cell hb h 0 rfl⟩
theorem keepA {w3 u : World} {R : Prop} (h : Below w3.heap.size w3 u ∧ R) (o : Obj) : Below w3.heap.size w3 (u.alloc o) := h.1.alloc h.1.size o
theorem keepC {w3 u u' : World} {R : Prop} (h : Below w3.heap.size w3 u ∧ R) (hb : Below u.heap.size u u') : Below w3.heap.size w3 u' := h.1.trans (hb.mono h.1.size)
theorem keepE {w w3 u : World} {R : Prop} (hw : Below w.heap.size w w3) (h : Below w3.heap.size w3 u ∧ R) : Below w.heap.size w u := hw.trans (h.1.mono hw.size)
theorem ba_app (a b : List UInt8) : (ByteArray.mk (a ++ b).toArray) = ⟨a.toArray⟩ ++ ⟨b.toArray⟩ := ba_ext (by simp)
theorem pow6 (n : Int) (h1 : 1 ≤ n) (h2 : n ≤ 1099511627776) : n.toNat < 256 ^ 6 := by
  have : (256 : Nat) ^ 6 = 281474976710656 := by decide
  omega
set_option maxRecDepth 100000 in
set_option maxHeartbeats 1000000 in
theorem slotSuper_ok (n : Int) (w : World) (h1 : 1 ≤ n) (h2 : n ≤ 1099511627776) :
    Calls Tryd.prog 18 #[.agg #[.int .i64 n]] w fun e w' => e = .returned (.tuple #[.string (layS (superL n)), .int .i64 0]) ∧ Below w.heap.size w w' := by
  have HE := Lib.hid (fun u => slotEpoch_any n u)
  rw [decide_eq_true (show 1 ≤ n ∧ n ≤ 1099511627776 from ⟨h1, h2⟩)] at HE
  have HF1 := Lib.hid (fun v u hv => slotFields_ok 1 v [1] u hv (by omega) (by omega) (by simp) (by intro n hn; rw [List.mem_singleton.1 hn]; exact ⟨by omega, by decide⟩))
  have HF6 := Lib.hid (fun v u hv => slotFields_ok 6 v [n] u hv (by omega) (by omega) (by simp) (by intro m hm; rw [List.mem_singleton.1 hm]; exact ⟨by omega, pow6 n h1 h2⟩))
  have HS := Lib.hid (fun u => slotSealed_any (superL n) u (by unfold superL; rw [List.length_append, fieldsL_len, fieldsL_len]; simp))
  have hadd : ∀ u, (Op.stringOp .add ⟨(fieldsL (1 : Int).toNat [1]).toArray⟩ ⟨(fieldsL (6 : Int).toNat [n]).toArray⟩).run Tryd.prog u = .ok (.string ⟨(superL n).toArray⟩) u :=
    add_run _ _ _ (ba_app _ _) (by rw [ba_size, ba_size, fieldsL_len, fieldsL_len]; simp)
  generalize (ByteArray.mk (fieldsL (1 : Int).toNat [1]).toArray) = F1 at *
  generalize (ByteArray.mk (fieldsL (6 : Int).toNat [n]).toArray) = F2 at *
  generalize (ByteArray.mk (superL n).toArray) = F3 at *
  have HL := Lib.hid (rfl : layS (superL n) = layS (superL n))
  generalize hR : layS (superL n) = R at *
  have hA := heap_alloc_new w (.cells #[.int .i64 n] 50)
  have hw := (Below.refl w.heap.size w).alloc (Nat.le_refl _) (.cells #[.int .i64 n] 50)
  clear hR
  go_enter Tryd.func18, Tryd.ntmps18
  go_wp2_with fail
  refine (HE.out _).mono ?_
  rintro e w2 ⟨rfl, rfl⟩
  obtain ⟨w1, hW⟩ : ∃ w1, w.alloc (.cells #[.int .i64 n] 50) = w1 := ⟨_, rfl⟩
  rw [hW] at hA hw ⊢
  clear hW HE
  have HA := Lib.hid hA
  go_upto_region 3 with fail
  go_region_held3 (fun u => Below w1.heap.size w1 u ∧ u.cell? ⟨w.heap.size, 0, none⟩ = some (.int .i64 n))
    ((refine keepSl HA.out ?_; first | assumption | exact (Below.refl _ _).drew | exact keepA (by assumption) _ | exact keepC (by assumption) (by assumption)))
    (first
    | (go_at_call_of 39 (Value.int .i64 1); refine (HF1.out _ _ ?_).mono ?_; refine reads1_one ?_ ?_; (focus (repeat (first | assumption | ((with_reducible refine c_new ?_ ?_) <;> (first | rfl | ((repeat (first | rw [drew_size] | rw [World.size_alloc])); done) | ((repeat (first | rw [drew_size] | rw [World.size_alloc])); rfl))) | with_reducible refine c_drew ?_ | ((with_reducible refine c_old ?_ ?_); ((repeat (first | rw [drew_size] | rw [World.size_alloc])); omega)) | ((with_reducible refine c_call (by assumption) ?_ ?_); ((repeat (first | rw [drew_size] | rw [World.size_alloc])); omega))))); ((repeat (first | rw [drew_size] | rw [World.size_alloc])); omega); rintro e w4 ⟨rfl, hbw4⟩; have hzw4 := hbw4.size; (repeat (first | rw [drew_size] at hzw4 | rw [World.size_alloc] at hzw4)))
    | (go_at_call_of 39 (Value.int .i64 6); refine (HF6.out _ _ ?_).mono ?_; refine reads1_one ?_ ?_; (focus (repeat (first | assumption | ((with_reducible refine c_new ?_ ?_) <;> (first | rfl | ((repeat (first | rw [drew_size] | rw [World.size_alloc])); done) | ((repeat (first | rw [drew_size] | rw [World.size_alloc])); rfl))) | with_reducible refine c_drew ?_ | ((with_reducible refine c_old ?_ ?_); ((repeat (first | rw [drew_size] | rw [World.size_alloc])); omega)) | ((with_reducible refine c_call (by assumption) ?_ ?_); ((repeat (first | rw [drew_size] | rw [World.size_alloc])); omega))))); ((repeat (first | rw [drew_size] | rw [World.size_alloc])); omega); rintro e w5 ⟨rfl, hbw5⟩; have hzw5 := hbw5.size; (repeat (first | rw [drew_size] at hzw5 | rw [World.size_alloc] at hzw5)))
    | (go_at_call 38; refine (HS.out _).mono ?_; rintro e w6 ⟨rfl, hb6⟩))
  all_goals
    go_wp2_with fail
    go_ret2
    exact ⟨rfl, keepE hw (by assumption)⟩
set_option maxRecDepth 100000 in
theorem slotSuper_bad (n : Int) (w : World) (h : ¬ (1 ≤ n ∧ n ≤ 1099511627776)) :
    Calls Tryd.prog 18 #[.agg #[.int .i64 n]] w fun e w' => e = .returned (.tuple #[.string ⟨#[]⟩, .int .i64 1]) ∧ Below w.heap.size w w' := by
  have HE := Lib.hid (fun u => slotEpoch_any n u)
  rw [decide_eq_false h] at HE
  clear h
  go_enter Tryd.func18, Tryd.ntmps18
  go_wp2_with fail
  refine (HE.out _).mono ?_
  rintro e w2 ⟨rfl, rfl⟩
  go_wp2_with fail
  go_ret2
  exact ⟨rfl, (Below.refl w.heap.size w).alloc (Nat.le_refl _) _⟩
theorem pow1 (n : Int) (h1 : 0 ≤ n) (h2 : n < 256) : n.toNat < 256 ^ 1 := by
  have : (256 : Nat) ^ 1 = 256 := by decide
  omega
set_option maxRecDepth 100000 in
set_option maxHeartbeats 1000000 in
theorem slotCommit_ok (n s : Int) (w : World) (h1 : 1 ≤ n ∧ n ≤ 1099511627776) (h2 : 0 ≤ s ∧ s < 6) :
    Calls Tryd.prog 49 #[.int .i64 n, .int .i64 s] w fun e w' => e = .returned (.tuple #[.string (layS (commitL n s)), .int .i64 0]) ∧ Below w.heap.size w w' := by
  have HE := Lib.hid (fun u => slotEpoch_any n u)
  have HP := Lib.hid (fun u => slotPlace_any s u)
  rw [decide_eq_true h1] at HE
  rw [decide_eq_true h2] at HP
  have HF1 := Lib.hid (fun v u hv => slotFields_ok 1 v [3] u hv (by omega) (by omega) (by simp) (by intro n hn; rw [List.mem_singleton.1 hn]; exact ⟨by omega, by decide⟩))
  have HF6 := Lib.hid (fun v u hv => slotFields_ok 6 v [n] u hv (by omega) (by omega) (by simp) (by intro m hm; rw [List.mem_singleton.1 hm]; exact ⟨by omega, pow6 n h1.1 h1.2⟩))
  have HFS := Lib.hid (fun v u hv => slotFields_ok 1 v [s] u hv (by omega) (by omega) (by simp) (by intro m hm; rw [List.mem_singleton.1 hm]; exact ⟨by omega, pow1 s (by omega) (by omega)⟩))
  have HS := Lib.hid (fun u => slotSealed_any (commitL n s) u (by unfold commitL; rw [List.length_append, List.length_append, fieldsL_len, fieldsL_len, fieldsL_len]; simp))
  obtain ⟨M, hM⟩ : ∃ M, fieldsL (1 : Int).toNat [3] ++ fieldsL (6 : Int).toNat [n] = M := ⟨_, rfl⟩
  have hadd : ∀ u, (Op.stringOp .add ⟨(fieldsL (1 : Int).toNat [3]).toArray⟩ ⟨(fieldsL (6 : Int).toNat [n]).toArray⟩).run Tryd.prog u = .ok (.string ⟨M.toArray⟩) u :=
    add_run _ _ _ (by rw [← hM]; exact ba_app _ _) (by rw [ba_size, ba_size, fieldsL_len, fieldsL_len]; simp)
  have hadd2 : ∀ u, (Op.stringOp .add ⟨M.toArray⟩ ⟨(fieldsL (1 : Int).toNat [s]).toArray⟩).run Tryd.prog u = .ok (.string ⟨(commitL n s).toArray⟩) u :=
    add_run _ _ _ (by show (ByteArray.mk (commitL n s).toArray) = _; rw [← ba_app]; unfold commitL; rw [← hM]; rfl) (by rw [ba_size, ba_size, ← hM, List.length_append, fieldsL_len, fieldsL_len, fieldsL_len]; simp)
  generalize (ByteArray.mk (fieldsL (1 : Int).toNat [3]).toArray) = F1 at *
  generalize (ByteArray.mk (fieldsL (6 : Int).toNat [n]).toArray) = F2 at *
  generalize (ByteArray.mk (fieldsL (1 : Int).toNat [s]).toArray) = F4 at *
  generalize (ByteArray.mk (commitL n s).toArray) = F3 at *
  generalize (ByteArray.mk M.toArray) = F5 at *
  generalize layS (commitL n s) = R at *
  clear hM
  go_enter Tryd.func49, Tryd.ntmps49
  go_wp2_with fail
  refine (HE.out _).mono ?_
  rintro e w2 ⟨rfl, rfl⟩
  go_wp2_with fail
  refine (HP.out _).mono ?_
  rintro e w2 ⟨rfl, rfl⟩
  go_wp2_with fail
  refine (HF1.out _ _ (reads1_one (c_new rfl rfl) (by simp))).mono ?_
  rintro e w3 ⟨rfl, hb3⟩
  have hw3 := ((Below.refl w.heap.size w).alloc (Nat.le_refl _) (.cells #[.int .i64 3] 3)).trans (hb3.mono (by simp))
  clear hb3
  go_wp2_with fail
  refine (HF6.out _ _ (reads1_one (c_new rfl rfl) (by simp))).mono ?_
  rintro e w4 ⟨rfl, hb4⟩
  have hw4 := (hw3.alloc hw3.size (.cells #[.int .i64 n] 3)).trans (hb4.mono (by simp; have := hw3.size; omega))
  clear hb4 hw3
  go_wp2_with fail
  refine (HFS.out _ _ (reads1_one (c_new rfl rfl) (by simp))).mono ?_
  rintro e w5 ⟨rfl, hb5⟩
  have hw5 := (hw4.alloc hw4.size (.cells #[.int .i64 s] 3)).trans (hb5.mono (by simp; have := hw4.size; omega))
  clear hb5 hw4
  go_wp2_with fail
  refine (HS.out _).mono ?_
  rintro e w6 ⟨rfl, hb6⟩
  go_wp2_with fail
  go_ret2
  exact ⟨rfl, hw5.trans (hb6.mono hw5.size)⟩
set_option maxRecDepth 100000 in
theorem slotCommit_bad (n s : Int) (w : World) (h : ¬ ((1 ≤ n ∧ n ≤ 1099511627776) ∧ (0 ≤ s ∧ s < 6))) :
    Calls Tryd.prog 49 #[.int .i64 n, .int .i64 s] w fun e w' => e = .returned (.tuple #[.string ⟨#[]⟩, .int .i64 1]) ∧ Below w.heap.size w w' := by
  have HE := Lib.hid (fun u => slotEpoch_any n u)
  have HP := Lib.hid (fun u => slotPlace_any s u)
  by_cases h1 : 1 ≤ n ∧ n ≤ 1099511627776
  · have h2 : ¬ (0 ≤ s ∧ s < 6) := fun hh => h ⟨h1, hh⟩
    rw [decide_eq_true h1] at HE
    rw [decide_eq_false h2] at HP
    clear h h1 h2
    go_enter Tryd.func49, Tryd.ntmps49
    go_wp2_with fail
    refine (HE.out _).mono ?_
    rintro e w2 ⟨rfl, rfl⟩
    go_wp2_with fail
    refine (HP.out _).mono ?_
    rintro e w2 ⟨rfl, rfl⟩
    go_wp2_with fail
    go_ret2
    exact ⟨rfl, Below.refl _ _⟩
  · rw [decide_eq_false h1] at HE
    clear h h1 HP
    go_enter Tryd.func49, Tryd.ntmps49
    go_wp2_with fail
    refine (HE.out _).mono ?_
    rintro e w2 ⟨rfl, rfl⟩
    go_wp2_with fail
    go_ret2
    exact ⟨rfl, Below.refl _ _⟩
end Go.Proofs.YthnmnnlbglpjaaaDoor
