/- frame.Ask. -/
import Derived.Test.YtmanlogclbbgaaaFr3
import Derived.Test.YtmanlogclbbgaaaCrcSeal
import Derived.Deep.RegionHeld3
namespace Go.Proofs.Ytmanlogclbbgaaa
open Go.RowKit
set_option linter.unusedVariables false

theorem reads1_one {u : World} {g : Nat} {n : Int} (h : u.cell? ⟨g, 0, none⟩ = some (.int .i64 n)) (hg : g < u.heap.size) : Reads1 encI u (.slice (some ⟨g, 0, none⟩) 1 1) [n] :=
  ⟨_, 1, 1, rfl, rfl, Nat.le_refl _, by omega, .inr ⟨g, 0, rfl, hg, fun i hi => by
    have : i = 0 := by simpa using hi
    subst this
    exact h⟩⟩
theorem reads1_two {u : World} {g : Nat} {n m : Int} (h : u.cell? ⟨g, 0, none⟩ = some (.int .i64 n)) (h1 : u.cell? ⟨g, 1, none⟩ = some (.int .i64 m)) (hg : g < u.heap.size) : Reads1 encI u (.slice (some ⟨g, 0, none⟩) 2 2) [n, m] :=
  ⟨_, 2, 2, rfl, rfl, Nat.le_refl _, by omega, .inr ⟨g, 0, rfl, hg, fun i hi => by
    have : i = 0 ∨ i = 1 := by simp at hi; omega
    rcases this with rfl | rfl
    · exact h
    · exact h1⟩⟩
theorem c_new {u : World} {cs : Array Value} {t : TypeId} {g j : Nat} {v : Value} (hg : g = u.heap.size) (hj : cs[j]? = some v) : (u.alloc (.cells cs t)).cell? ⟨g, j, none⟩ = some v := by
  subst hg
  rw [cell_of_row _ _ j _ _ _ (heap_alloc_new u _)]
  exact hj
theorem c_old {u : World} {o : Obj} {g j : Nat} {v : Value} (hg : g < u.heap.size) (h : u.cell? ⟨g, j, none⟩ = some v) : (u.alloc o).cell? ⟨g, j, none⟩ = some v :=
  (World.cell?_of_block (a := ⟨g, j, none⟩) (heap_alloc_old u o hg)).trans h
theorem drew_size (u : World) : u.drew.heap.size = u.heap.size := rfl
theorem c_drew {u : World} {p : Addr} {v : Value} (h : u.cell? p = some v) : u.drew.cell? p = some v := h
theorem c_call {u w' : World} {g j : Nat} {v : Value} (hb : Below u.heap.size u w') (hg : g < u.heap.size) (h : u.cell? ⟨g, j, none⟩ = some v) : w'.cell? ⟨g, j, none⟩ = some v := (hb.cell (p := ⟨g, j, none⟩) hg).trans h
theorem keepA {w3 u : World} {R : Prop} (h : Below w3.heap.size w3 u ∧ R) (o : Obj) : Below w3.heap.size w3 (u.alloc o) := h.1.alloc h.1.size o
theorem keepC {w3 u u' : World} {R : Prop} (h : Below w3.heap.size w3 u ∧ R) (hb : Below u.heap.size u u') : Below w3.heap.size w3 u' := h.1.trans (hb.mono h.1.size)
theorem keepE {w w3 u : World} {R : Prop} (hw : Below w.heap.size w w3) (h : Below w3.heap.size w3 u ∧ R) : Below w.heap.size w u := hw.trans (h.1.mono hw.size)

def askB (q : Asq) : ByteArray := sealL (numS q.kind.toNat 1 ++ textL q.name ++ numS q.no.toNat 8 ++ textL q.source ++ textL q.record)
theorem right_facts (q : Asq) (h : rightA q = true) : (1 ≤ q.kind ∧ q.kind ≤ 8) ∧ 0 ≤ q.no ∧ q.source.size ≤ 2000 ∧ q.name.size ≤ 12 := by
  unfold rightA at h
  simp only [Bool.and_eq_true, decide_eq_true_eq, Bool.or_eq_true] at h
  obtain ⟨⟨⟨⟨h1, h2⟩, h3⟩, h4⟩, h5⟩ := h
  refine ⟨h1, h3, h4, ?_⟩
  rcases h5 with h5 | h5
  · unfold Asq.unused asqZ at h2
    rw [if_neg (by omega), if_neg (by omega), if_neg (by omega), if_neg (by omega)] at h2
    have := (Asq.mk.inj h2).2.1
    rw [this]; decide
  · exact h5.2
theorem keepAq {w3 u : World} {g : Nat} {q : Asq} {t : TypeId} {fr : Nat × Nat} (h : w3.heap[g]? = some (.cells #[.int .i64 q.kind, .string q.name, .int .i64 q.no, .string q.source, .string q.record] t fr)) (hb : Below w3.heap.size w3 u) :
    Below w3.heap.size w3 u ∧ u.cell? ⟨g, 0, none⟩ = some (.int .i64 q.kind) ∧ u.cell? ⟨g, 1, none⟩ = some (.string q.name) ∧ u.cell? ⟨g, 2, none⟩ = some (.int .i64 q.no) ∧ u.cell? ⟨g, 3, none⟩ = some (.string q.source) ∧ u.cell? ⟨g, 4, none⟩ = some (.string q.record) :=
  ⟨hb, below_cell hb h 0 rfl, below_cell hb h 1 rfl, below_cell hb h 2 rfl, below_cell hb h 3 rfl, below_cell hb h 4 rfl⟩
set_option maxRecDepth 100000 in
set_option maxHeartbeats 4000000 in
theorem frAsk_ok (q : Asq) (w : World) (hr : rightA q = true) (h3 : q.record.size ≤ 100) (hno : q.no ≤ 9223372036854775807) :
    Calls Try.prog 9 #[q.value] w fun e w' => e = .returned (.tuple #[.string (askB q), .int .i64 0]) ∧ Below w.heap.size w w' := by
  obtain ⟨⟨k1, k2⟩, k3, k4, k5⟩ := right_facts q hr
  have HR := Lib.hid (fun u => dmRight q u (by omega) (by omega) (by omega))
  rw [hr] at HR
  have e8 : (256 : Nat) ^ (8 : Int).toNat = 18446744073709551616 := by decide
  have e1 : (256 : Nat) ^ (1 : Int).toNat = 256 := by decide
  have HB := Lib.hid (fun v u (hu : Reads1 encI u v [q.kind]) => frNumber 1 v [q.kind] u hu (by omega) (by omega) (by simp) (by intro m hm; rw [List.mem_singleton.1 hm, e1]; omega))
  have HC := Lib.hid (fun v u (hu : Reads1 encI u v [q.no]) => frNumber 8 v [q.no] u hu (by omega) (by omega) (by simp) (by intro m hm; rw [List.mem_singleton.1 hm, e8]; omega))
  rw [show (⟨(fieldsL (1 : Int).toNat [q.kind]).toArray⟩ : ByteArray) = numS q.kind.toNat 1 from by simp [numS, fieldsL]] at HB
  rw [show (⟨(fieldsL (8 : Int).toNat [q.no]).toArray⟩ : ByteArray) = numS q.no.toNat 8 from by simp [numS, fieldsL]] at HC
  have HT1 := Lib.hid (fun u => frText q.name u (by omega))
  have HT2 := Lib.hid (fun u => frText q.source u (by omega))
  have HT3 := Lib.hid (fun u => frText q.record u (by omega))
  have z1 : (numS q.kind.toNat 1).size = 1 := numS_size _ _
  have z2 : (numS q.no.toNat 8).size = 8 := numS_size _ _
  have t1 := textL_size q.name
  have t2 := textL_size q.source
  have t3 := textL_size q.record
  have ha : askB q = sealL (numS q.kind.toNat 1 ++ textL q.name ++ numS q.no.toNat 8 ++ textL q.source ++ textL q.record) := rfl
  rw [ha]
  generalize numS q.kind.toNat 1 = N1 at *
  generalize numS q.no.toNat 8 = N8 at *
  generalize textL q.name = T1 at *
  generalize textL q.source = T2 at *
  generalize textL q.record = T3 at *
  have a1 := add_run (P := Try.prog) N1 T1 _ rfl (by omega)
  have s1 : (N1 ++ T1).size = 3 + q.name.size := by rw [ByteArray.size_append]; omega
  have a2 := add_run (P := Try.prog) (N1 ++ T1) N8 _ rfl (by omega)
  have s2 : (N1 ++ T1 ++ N8).size = 11 + q.name.size := by rw [ByteArray.size_append]; omega
  have a3 := add_run (P := Try.prog) (N1 ++ T1 ++ N8) T2 _ rfl (by omega)
  have s3 : (N1 ++ T1 ++ N8 ++ T2).size = 13 + q.name.size + q.source.size := by rw [ByteArray.size_append]; omega
  have a4 := add_run (P := Try.prog) (N1 ++ T1 ++ N8 ++ T2) T3 _ rfl (by omega)
  have s4 : (N1 ++ T1 ++ N8 ++ T2 ++ T3).size ≤ 140737488355328 := by rw [ByteArray.size_append]; omega
  have HSE := Lib.hid (fun u => crcSeal_any (N1 ++ T1 ++ N8 ++ T2 ++ T3) u s4)
  generalize N1 ++ T1 ++ N8 ++ T2 ++ T3 = S4 at *
  generalize N1 ++ T1 ++ N8 ++ T2 = S3 at *
  generalize N1 ++ T1 ++ N8 = S2 at *
  generalize N1 ++ T1 = S1 at *
  have h3I : (q.record.size : Int) ≤ 100 := by omega
  clear ha z1 z2 t1 t2 t3 s1 s2 s3 s4 e1 e8 k1 k2 k3 k4 k5 hno h3
  obtain ⟨kind, name, no, source, record⟩ := q
  unfold Asq.value at *
  dsimp only at *
  go_enter Try.func9, Try.ntmps9
  go_upto_region 3 with (first | (go_at_call 23; refine (HR.out _).mono ?_; rintro e w2 ⟨rfl, hb2⟩; have hq2 := (hb2.block _ (lt_of_block (heap_alloc_new w _))).trans (heap_alloc_new w (.cells #[.int .i64 kind, .string name, .int .i64 no, .string source, .string record] 23)); have q4 := below_cell (Below.refl _ w2) hq2 4 rfl))
  have HQ := Lib.hid hq2
  have HW2 := Lib.hid (((Below.refl w.heap.size w).alloc (Nat.le_refl _) (.cells #[.int .i64 kind, .string name, .int .i64 no, .string source, .string record] 23)).trans (hb2.mono (by simp)))
  clear q4 hq2
  go_region_held3 (fun u => Below w2.heap.size w2 u ∧ u.cell? ⟨w.heap.size, 0, none⟩ = some (.int .i64 kind) ∧ u.cell? ⟨w.heap.size, 1, none⟩ = some (.string name) ∧ u.cell? ⟨w.heap.size, 2, none⟩ = some (.int .i64 no) ∧ u.cell? ⟨w.heap.size, 3, none⟩ = some (.string source) ∧ u.cell? ⟨w.heap.size, 4, none⟩ = some (.string record))
    ((refine keepAq (q := ⟨kind, name, no, source, record⟩) HQ.out ?_; first | assumption | exact (Below.refl _ _).drew | exact keepA (by assumption) _ | exact keepC (by assumption) (by assumption)))
    (first
    | (go_at_call_of 25 (Value.int .i64 1); refine (HB.out _ _ ?_).mono ?_; refine reads1_one ?_ ?_; (focus (repeat (first | assumption | ((with_reducible refine c_new ?_ ?_) <;> (first | rfl | ((repeat (first | rw [drew_size] | rw [World.size_alloc])); done) | ((repeat (first | rw [drew_size] | rw [World.size_alloc])); rfl))) | with_reducible refine c_drew ?_ | ((with_reducible refine c_old ?_ ?_); ((repeat (first | rw [drew_size] | rw [World.size_alloc])); omega)) | ((with_reducible refine c_call (by assumption) ?_ ?_); ((repeat (first | rw [drew_size] | rw [World.size_alloc])); omega))))); ((repeat (first | rw [drew_size] | rw [World.size_alloc])); omega); rintro e w5 ⟨rfl, hbw5⟩; have hzw5 := hbw5.size; (repeat (first | rw [drew_size] at hzw5 | rw [World.size_alloc] at hzw5)))
    | (go_at_call_of 25 (Value.int .i64 8); refine (HC.out _ _ ?_).mono ?_; refine reads1_one ?_ ?_; (focus (repeat (first | assumption | ((with_reducible refine c_new ?_ ?_) <;> (first | rfl | ((repeat (first | rw [drew_size] | rw [World.size_alloc])); done) | ((repeat (first | rw [drew_size] | rw [World.size_alloc])); rfl))) | with_reducible refine c_drew ?_ | ((with_reducible refine c_old ?_ ?_); ((repeat (first | rw [drew_size] | rw [World.size_alloc])); omega)) | ((with_reducible refine c_call (by assumption) ?_ ?_); ((repeat (first | rw [drew_size] | rw [World.size_alloc])); omega))))); ((repeat (first | rw [drew_size] | rw [World.size_alloc])); omega); rintro e w6 ⟨rfl, hbw6⟩; have hzw6 := hbw6.size; (repeat (first | rw [drew_size] at hzw6 | rw [World.size_alloc] at hzw6)))
    | (go_at_call_of 26 name; refine (HT1.out _).mono ?_; rintro e w7 ⟨rfl, hbw7⟩; have hzw7 := hbw7.size; (repeat (first | rw [drew_size] at hzw7 | rw [World.size_alloc] at hzw7)))
    | (go_at_call_of 26 source; refine (HT2.out _).mono ?_; rintro e w8 ⟨rfl, hbw8⟩; have hzw8 := hbw8.size; (repeat (first | rw [drew_size] at hzw8 | rw [World.size_alloc] at hzw8)))
    | (go_at_call_of 26 record; refine (HT3.out _).mono ?_; rintro e w9 ⟨rfl, hbw9⟩; have hzw9 := hbw9.size; (repeat (first | rw [drew_size] at hzw9 | rw [World.size_alloc] at hzw9)))
    | (go_at_call 24; refine (HSE.out _).mono ?_; rintro e w10 ⟨rfl, hbw10⟩; have hzw10 := hbw10.size; (repeat (first | rw [drew_size] at hzw10 | rw [World.size_alloc] at hzw10)))
    | fail)
  all_goals
    go_wp2_with fail
    go_ret2
    exact ⟨rfl, keepE HW2.out (by assumption)⟩
def askOk (q : Asq) : Bool := rightA q && decide (q.record.size ≤ 100)
def askS (q : Asq) : ByteArray := if askOk q = true then askB q else ⟨#[]⟩
def askE (q : Asq) : Int := if askOk q = true then 0 else 1
set_option maxRecDepth 100000 in
set_option maxHeartbeats 1000000 in
theorem frAsk_bad (q : Asq) (w : World) (hr : askOk q = false) (h1 : q.name.size ≤ 9223372036854775807) (h2 : q.source.size ≤ 9223372036854775807) (h3 : q.record.size ≤ 9223372036854775807) :
    Calls Try.prog 9 #[q.value] w fun e w' => e = .returned (.tuple #[.string ⟨#[]⟩, .int .i64 1]) ∧ Below w.heap.size w w' := by
  have HR := Lib.hid (fun u => dmRight q u h1 h2 h3)
  unfold askOk at hr
  have h3I : (q.record.size : Int) ≤ 9223372036854775807 := by omega
  clear h1 h2 h3
  obtain ⟨kind, name, no, source, record⟩ := q
  unfold Asq.value at *
  dsimp only at *
  cases hk : rightA ⟨kind, name, no, source, record⟩
  · rw [hk] at HR
    clear hr hk
    go_enter Try.func9, Try.ntmps9
    go_wp2_with (first | (go_at_call 23; refine (HR.out _).mono ?_; rintro e w2 ⟨rfl, hb2⟩))
    go_ret2
    exact ⟨rfl, ((Below.refl w.heap.size w).alloc (Nat.le_refl _) _).trans (hb2.mono (by simp))⟩
  · rw [hk] at HR hr
    have h4 : ¬ record.size ≤ 100 := by simpa using hr
    have h4I : (100 : Int) < record.size := by omega
    clear hr hk h4
    go_enter Try.func9, Try.ntmps9
    go_wp2_with (first | (go_at_call 23; refine (HR.out _).mono ?_; rintro e w2 ⟨rfl, hb2⟩; have hq2 := (hb2.block _ (lt_of_block (heap_alloc_new w _))).trans (heap_alloc_new w (.cells #[.int .i64 kind, .string name, .int .i64 no, .string source, .string record] 23)); have q4 := below_cell (Below.refl _ w2) hq2 4 rfl))
    go_ret2
    exact ⟨rfl, ((Below.refl w.heap.size w).alloc (Nat.le_refl _) _).trans (hb2.mono (by simp))⟩
theorem frAsk_any (q : Asq) (w : World) (h1 : q.name.size ≤ 9223372036854775807) (h2 : q.source.size ≤ 9223372036854775807) (h3 : q.record.size ≤ 9223372036854775807) (hno : q.no ≤ 9223372036854775807) :
    Calls Try.prog 9 #[q.value] w fun e w' => e = .returned (.tuple #[.string (askS q), .int .i64 (askE q)]) ∧ Below w.heap.size w w' := by
  cases h : askOk q
  · have e1 : askS q = ⟨#[]⟩ := by unfold askS; rw [h]; rfl
    have e2 : askE q = 1 := by unfold askE; rw [h]; rfl
    rw [e1, e2]
    exact frAsk_bad q w h h1 h2 h3
  · have e1 : askS q = askB q := by unfold askS; rw [h]; rfl
    have e2 : askE q = 0 := by unfold askE; rw [h]; rfl
    rw [e1, e2]
    unfold askOk at h
    rw [Bool.and_eq_true, decide_eq_true_eq] at h
    exact frAsk_ok q w h.1 h.2 hno
end Go.Proofs.Ytmanlogclbbgaaa
