/- slot.Head. -/
import Derived.Test.YthnmnnlbglpjaaaDoorSlotW
namespace Go.Proofs.YthnmnnlbglpjaaaDoor
open Go.RowKit
set_option linter.unusedVariables false

theorem keepHd {w3 u : World} {g : Nat} {x y z : Value} {t : TypeId} {fr : Nat × Nat} (h : w3.heap[g]? = some (.cells #[x, y, z] t fr)) (hb : Below w3.heap.size w3 u) :
    Below w3.heap.size w3 u ∧ u.cell? ⟨g, 0, none⟩ = some x ∧ u.cell? ⟨g, 1, none⟩ = some y ∧ u.cell? ⟨g, 2, none⟩ = some z := ⟨hb, below_cell hb h 0 rfl, below_cell hb h 1 rfl, below_cell hb h 2 rfl⟩
def headOk (E S : Int) (l : List Int) : Bool := decide (1 ≤ E ∧ E ≤ 1099511627776) && (decide (0 ≤ S ∧ S < 6) && okT l)
theorem okT_fit (l : List Int) (h : okT l = true) : l.length ≤ 40 ∧ ∀ n ∈ l, 0 ≤ n ∧ n.toNat < 256 ^ (2 : Int).toNat := by
  obtain ⟨_, h2, h3, _⟩ := of_decide_eq_true h
  refine ⟨h2, fun n hn => ⟨by have := h3 n hn; omega, ?_⟩⟩
  have := h3 n hn
  have e : (256 : Nat) ^ (2 : Int).toNat = 65536 := by decide
  omega
theorem headL_len (E S : Int) (l : List Int) : (headL E S l).length = 9 + 2 * l.length := by
  unfold headL
  rw [List.length_append, List.length_append, List.length_append, fieldsL_len, fieldsL_len, fieldsL_len, fieldsL_len]
  simp
  omega
set_option maxRecDepth 100000 in
set_option maxHeartbeats 4000000 in
theorem slotHead_ok (E S : Int) (tv : Value) (l : List Int) (w : World) (hv : Reads1 encI w tv l) (h : headOk E S l = true) :
    Calls Tryd.prog 48 #[.agg #[.int .i64 E, .int .i64 S, tv]] w fun e w' => e = .returned (.tuple #[.string (layS (headL E S l)), .int .i64 0]) ∧ Below w.heap.size w w' := by
  obtain ⟨a, len, cap, rfl, hlen, hc1, hc2, hat⟩ := hv
  subst hlen
  have hv : Reads1 encI w (.slice a l.length cap) l := ⟨_, _, _, rfl, rfl, hc1, hc2, hat⟩
  unfold headOk at h
  rw [Bool.and_eq_true, Bool.and_eq_true] at h
  obtain ⟨h1, h2, h3⟩ := h
  obtain ⟨h4, h5⟩ := okT_fit l h3
  have hE := of_decide_eq_true h1
  have hS := of_decide_eq_true h2
  have HE := Lib.hid (fun u => slotEpoch_any E u)
  have HP := Lib.hid (fun u => slotPlace_any S u)
  have HT := Lib.hid (fun u hu => slotTargets_any (.slice a l.length cap) l u hu)
  rw [h1] at HE
  rw [h2] at HP
  rw [h3] at HT
  have HF1 := Lib.hid (fun v u hv => slotFields_ok 1 v [2] u hv (by omega) (by omega) (by simp) (by intro n hn; rw [List.mem_singleton.1 hn]; exact ⟨by omega, by decide⟩))
  have HF6 := Lib.hid (fun v u hv => slotFields_ok 6 v [E] u hv (by omega) (by omega) (by simp) (by intro m hm; rw [List.mem_singleton.1 hm]; exact ⟨by omega, pow6 E hE.1 hE.2⟩))
  have HF2 := Lib.hid (fun v u hv => slotFields_ok 1 v [S, (l.length : Int)] u hv (by omega) (by omega) (by simp) (by
    intro m hm
    simp only [List.mem_cons, List.not_mem_nil, or_false] at hm
    rcases hm with rfl | rfl
    · exact ⟨by omega, pow1 _ (by omega) (by omega)⟩
    · exact ⟨by omega, pow1 _ (by omega) (by omega)⟩))
  have HFL := Lib.hid (fun v u hv => slotFields_ok 2 v l u hv (by omega) (by omega) (by omega) h5)
  have HSE := Lib.hid (fun u => slotSealed_any (headL E S l) u (by rw [headL_len]; omega))
  obtain ⟨M, hM⟩ : ∃ M, fieldsL (1 : Int).toNat [2] ++ fieldsL (6 : Int).toNat [E] = M := ⟨_, rfl⟩
  obtain ⟨M', hM'⟩ : ∃ M', M ++ fieldsL (1 : Int).toNat [S, (l.length : Int)] = M' := ⟨_, rfl⟩
  have hadd : ∀ u, (Op.stringOp .add ⟨(fieldsL (1 : Int).toNat [2]).toArray⟩ ⟨(fieldsL (6 : Int).toNat [E]).toArray⟩).run Tryd.prog u = .ok (.string ⟨M.toArray⟩) u :=
    add_run _ _ _ (by rw [← hM]; exact ba_app _ _) (by rw [ba_size, ba_size, fieldsL_len, fieldsL_len]; simp)
  have hadd2 : ∀ u, (Op.stringOp .add ⟨M.toArray⟩ ⟨(fieldsL (1 : Int).toNat [S, (l.length : Int)]).toArray⟩).run Tryd.prog u = .ok (.string ⟨M'.toArray⟩) u :=
    add_run _ _ _ (by rw [← hM']; exact ba_app _ _) (by rw [ba_size, ba_size, ← hM, List.length_append, fieldsL_len, fieldsL_len, fieldsL_len]; simp)
  have hadd3 : ∀ u, (Op.stringOp .add ⟨M'.toArray⟩ ⟨(fieldsL (2 : Int).toNat l).toArray⟩).run Tryd.prog u = .ok (.string ⟨(headL E S l).toArray⟩) u :=
    add_run _ _ _ (by show (ByteArray.mk (headL E S l).toArray) = _; rw [← ba_app]; unfold headL; rw [← hM', ← hM]; rfl) (by rw [ba_size, ba_size, ← hM', ← hM, List.length_append, List.length_append, fieldsL_len, fieldsL_len, fieldsL_len, fieldsL_len]; simp; omega)
  generalize (ByteArray.mk (fieldsL (1 : Int).toNat [2]).toArray) = F1 at *
  generalize (ByteArray.mk (fieldsL (6 : Int).toNat [E]).toArray) = F2 at *
  generalize (ByteArray.mk (fieldsL (1 : Int).toNat [S, (l.length : Int)]).toArray) = F4 at *
  generalize (ByteArray.mk (fieldsL (2 : Int).toNat l).toArray) = F6 at *
  generalize (ByteArray.mk (headL E S l).toArray) = F3 at *
  generalize (ByteArray.mk M.toArray) = F5 at *
  generalize (ByteArray.mk M'.toArray) = F7 at *
  generalize layS (headL E S l) = R at *
  have hA := heap_alloc_new w (.cells #[.int .i64 E, .int .i64 S, .slice a l.length cap] 84)
  have hw := (Below.refl w.heap.size w).alloc (Nat.le_refl _) (.cells #[.int .i64 E, .int .i64 S, .slice a l.length cap] 84)
  have HV := Lib.hid hv
  clear hM hM' hat hv h1 h2 h3 h5
  have hlI : (l.length : Int) ≤ 40 := by omega
  go_enter Tryd.func48, Tryd.ntmps48
  go_wp2_with fail
  refine (HE.out _).mono ?_
  rintro e w2 ⟨rfl, rfl⟩
  go_wp2_with fail
  refine (HP.out _).mono ?_
  rintro e w2 ⟨rfl, rfl⟩
  go_wp2_with fail
  refine (HT.out _ (HV.out.below hw)).mono ?_
  rintro e w3 ⟨rfl, hb3⟩
  have hA3 := (hb3.block _ (Array.getElem?_eq_some_iff.1 hA).1).trans hA
  have hw3 := hw.trans (hb3.mono hw.size)
  clear hA hw hb3 HE HP HT
  have HA := Lib.hid hA3
  have HB := Lib.hid (fun u (R : Prop) (hu : Below w3.heap.size w3 u ∧ R) => HV.out.below (keepE hw3 hu))
  have x0 := below_cell (Below.refl _ w3) hA3 0 rfl
  have x1 := below_cell (Below.refl _ w3) hA3 1 rfl
  have x2 := below_cell (Below.refl _ w3) hA3 2 rfl
  go_upto_region 3 with fail
  clear x0 x1 x2
  go_cut [4] (fun sv wx => sv = .string F3 ∧ Below w3.heap.size w3 wx)
  case first =>
    go_region_held3 (fun u => Below w3.heap.size w3 u ∧ u.cell? ⟨w.heap.size, 0, none⟩ = some (.int .i64 E) ∧ u.cell? ⟨w.heap.size, 1, none⟩ = some (.int .i64 S) ∧ u.cell? ⟨w.heap.size, 2, none⟩ = some (.slice a l.length cap))
      ((refine keepHd HA.out ?_; first | assumption | exact (Below.refl _ _).drew | exact keepA (by assumption) _ | exact keepC (by assumption) (by assumption)))
      (first
      | (go_at_call_of 39 (Value.int .i64 1); refine (HF1.out _ _ ?_).mono ?_; refine reads1_one ?_ ?_; (focus (repeat (first | assumption | ((with_reducible refine c_new ?_ ?_) <;> (first | rfl | ((repeat (first | rw [drew_size] | rw [World.size_alloc])); done) | ((repeat (first | rw [drew_size] | rw [World.size_alloc])); rfl))) | with_reducible refine c_drew ?_ | ((with_reducible refine c_old ?_ ?_); ((repeat (first | rw [drew_size] | rw [World.size_alloc])); omega)) | ((with_reducible refine c_call (by assumption) ?_ ?_); ((repeat (first | rw [drew_size] | rw [World.size_alloc])); omega))))); ((repeat (first | rw [drew_size] | rw [World.size_alloc])); omega); rintro e w4 ⟨rfl, hbw4⟩; have hzw4 := hbw4.size; (repeat (first | rw [drew_size] at hzw4 | rw [World.size_alloc] at hzw4)))
      | (go_at_call_of 39 (Value.int .i64 6); refine (HF6.out _ _ ?_).mono ?_; refine reads1_one ?_ ?_; (focus (repeat (first | assumption | ((with_reducible refine c_new ?_ ?_) <;> (first | rfl | ((repeat (first | rw [drew_size] | rw [World.size_alloc])); done) | ((repeat (first | rw [drew_size] | rw [World.size_alloc])); rfl))) | with_reducible refine c_drew ?_ | ((with_reducible refine c_old ?_ ?_); ((repeat (first | rw [drew_size] | rw [World.size_alloc])); omega)) | ((with_reducible refine c_call (by assumption) ?_ ?_); ((repeat (first | rw [drew_size] | rw [World.size_alloc])); omega))))); ((repeat (first | rw [drew_size] | rw [World.size_alloc])); omega); rintro e w5 ⟨rfl, hbw5⟩; have hzw5 := hbw5.size; (repeat (first | rw [drew_size] at hzw5 | rw [World.size_alloc] at hzw5)))
      | (go_at_call_of 39 (Value.int .i64 1); refine (HF2.out _ _ ?_).mono ?_; refine reads1_two ?_ ?_ ?_; (focus (repeat (first | assumption | ((with_reducible refine c_new ?_ ?_) <;> (first | rfl | ((repeat (first | rw [drew_size] | rw [World.size_alloc])); done) | ((repeat (first | rw [drew_size] | rw [World.size_alloc])); rfl))) | with_reducible refine c_drew ?_ | ((with_reducible refine c_old ?_ ?_); ((repeat (first | rw [drew_size] | rw [World.size_alloc])); omega)) | ((with_reducible refine c_call (by assumption) ?_ ?_); ((repeat (first | rw [drew_size] | rw [World.size_alloc])); omega))))); (focus (repeat (first | assumption | ((with_reducible refine c_new ?_ ?_) <;> (first | rfl | ((repeat (first | rw [drew_size] | rw [World.size_alloc])); done) | ((repeat (first | rw [drew_size] | rw [World.size_alloc])); rfl))) | with_reducible refine c_drew ?_ | ((with_reducible refine c_old ?_ ?_); ((repeat (first | rw [drew_size] | rw [World.size_alloc])); omega)) | ((with_reducible refine c_call (by assumption) ?_ ?_); ((repeat (first | rw [drew_size] | rw [World.size_alloc])); omega))))); ((repeat (first | rw [drew_size] | rw [World.size_alloc])); omega); rintro e w7 ⟨rfl, hbw7⟩; have hzw7 := hbw7.size; (repeat (first | rw [drew_size] at hzw7 | rw [World.size_alloc] at hzw7)))
      | (go_at_call_of 39 (Value.int .i64 2); refine (HFL.out _ _ (HB.out _ _ (by assumption))).mono ?_; rintro e w9 ⟨rfl, hb9⟩))
    all_goals
      go_wp2_with fail
      go_meet
      exact ⟨rfl, And.left (by assumption)⟩
  case rest =>
  obtain ⟨rfl, hb4⟩ := hcut
  go_wp2_with fail
  refine (HSE.out _).mono ?_
  rintro e w6 ⟨rfl, hb6⟩
  go_wp2_with fail
  go_ret2
  have hw6 := hw3.trans (hb4.mono hw3.size)
  exact ⟨rfl, hw6.trans (hb6.mono hw6.size)⟩
set_option maxRecDepth 100000 in
set_option maxHeartbeats 1000000 in
theorem slotHead_bad (E S : Int) (tv : Value) (l : List Int) (w : World) (hv : Reads1 encI w tv l) (h : headOk E S l = false) :
    Calls Tryd.prog 48 #[.agg #[.int .i64 E, .int .i64 S, tv]] w fun e w' => e = .returned (.tuple #[.string ⟨#[]⟩, .int .i64 1]) ∧ Below w.heap.size w w' := by
  obtain ⟨a, len, cap, rfl, hlen, hc1, hc2, hat⟩ := hv
  subst hlen
  have hv : Reads1 encI w (.slice a l.length cap) l := ⟨_, _, _, rfl, rfl, hc1, hc2, hat⟩
  have HE := Lib.hid (fun u => slotEpoch_any E u)
  have HP := Lib.hid (fun u => slotPlace_any S u)
  have HT := Lib.hid (fun u hu => slotTargets_any (.slice a l.length cap) l u hu)
  have HV := Lib.hid hv
  have hw := (Below.refl w.heap.size w).alloc (Nat.le_refl _) (.cells #[.int .i64 E, .int .i64 S, .slice a l.length cap] 84)
  unfold headOk at h
  generalize decide (1 ≤ E ∧ E ≤ 1099511627776) = b1 at *
  generalize decide (0 ≤ S ∧ S < 6) = b2 at *
  generalize okT l = b3 at *
  clear hat hv
  cases b1 with
  | false =>
    go_enter Tryd.func48, Tryd.ntmps48
    go_wp2_with fail
    refine (HE.out _).mono ?_
    rintro e w2 ⟨rfl, rfl⟩
    go_wp2_with fail
    go_ret2
    exact ⟨rfl, hw⟩
  | true =>
    cases b2 with
    | false =>
      go_enter Tryd.func48, Tryd.ntmps48
      go_wp2_with fail
      refine (HE.out _).mono ?_
      rintro e w2 ⟨rfl, rfl⟩
      go_wp2_with fail
      refine (HP.out _).mono ?_
      rintro e w2 ⟨rfl, rfl⟩
      go_wp2_with fail
      go_ret2
      exact ⟨rfl, hw⟩
    | true =>
      cases b3 with
      | true => simp at h
      | false =>
        go_enter Tryd.func48, Tryd.ntmps48
        go_wp2_with fail
        refine (HE.out _).mono ?_
        rintro e w2 ⟨rfl, rfl⟩
        go_wp2_with fail
        refine (HP.out _).mono ?_
        rintro e w2 ⟨rfl, rfl⟩
        go_wp2_with fail
        refine (HT.out _ (HV.out.below hw)).mono ?_
        rintro e w3 ⟨rfl, hb3⟩
        go_wp2_with fail
        go_ret2
        exact ⟨rfl, hw.trans (hb3.mono hw.size)⟩
end Go.Proofs.YthnmnnlbglpjaaaDoor
