/- What a crash leaves of a disk, some writes of which are pending; what a flush has; plain. -/
import Derived.Test.YthnmnnlbglpjaaaGreatDoorWp1
namespace Go.Proofs.YthnmnnlbglpjaaaGreatDoor
open Go.RowKit
set_option linter.unusedVariables false

/-- a disk's sectors, and what its pending writes may be -/
structure Ph (S : List ByteArray) (A : Nat → ByteArray → Prop) (d : Dsk) : Prop where
  secs : d.secs = S
  right : rightD d = true
  pend : ∀ x ∈ d.pend, A x.sector.toNat x.bytes
theorem Ph.crash {S : List ByteArray} {A : Nat → ByteArray → Prop} {d : Dsk} (h : Ph S A d) (keep : List Bool) :
    ∃ S', crashD d keep = ⟨S', []⟩ ∧ S'.length = S.length ∧ rightD ⟨S', []⟩ = true ∧ ∀ k, sec S' k = sec S k ∨ A k (sec S' k) := by
  have hc := crash_eq d keep h.right
  refine ⟨crashL d keep d.pend.length, hc, ?_, ?_, fun k => ?_⟩
  · rw [crashL_len, h.secs]
  · have := crash_right d keep h.right
    rw [hc] at this
    exact this
  · rcases crashL_whole d keep h.right k _ (Nat.le_refl _) with e | ⟨j, hj, e1, e2⟩
    · left
      unfold sec
      rw [e, h.secs]
    · right
      have hm : d.pend.getD j wrtZ ∈ d.pend := by simp [List.getD, hj]
      have := h.pend _ hm
      rw [e1, e2] at this
      exact this
theorem wr_cases (o : Outc) (x : Wrt) : ((wrS o x).code ≠ 0 ∧ (wrS o x).dsk = o.dsk) ∨ (o.code = 0 ∧ (wrS o x).code = 0 ∧ (wrS o x).dsk = writeD o.dsk x.sector x.bytes ∧ (0 ≤ x.sector ∧ x.sector < o.dsk.secs.length) ∧ (trimS x.bytes).size ≤ 512 ∧ rightD o.dsk = true) := by
  unfold wrS
  by_cases h0 : o.code = 0
  · rw [if_pos h0]
    unfold wrO
    by_cases h1 : readyE o.dsk o.left ≠ 0
    · rw [if_pos h1]; exact .inl ⟨h1, rfl⟩
    · rw [if_neg h1]
      by_cases h2 : ¬ (0 ≤ x.sector ∧ x.sector < o.dsk.secs.length)
      · rw [if_pos h2]; exact .inl ⟨show (20 : Int) ≠ 0 by decide, rfl⟩
      · rw [if_neg h2]
        by_cases h3 : 512 < (trimS x.bytes).size
        · rw [if_pos h3]; exact .inl ⟨show (2 : Int) ≠ 0 by decide, rfl⟩
        · rw [if_neg h3]
          exact .inr ⟨h0, rfl, rfl, Decidable.not_not.1 h2, by omega, (ready_zero h1).2⟩
  · rw [if_neg h0]; exact .inl ⟨h0, rfl⟩
theorem fl_cases (o : Outc) : ((flS o).code ≠ 0 ∧ (flS o).dsk = o.dsk) ∨ (o.code = 0 ∧ (flS o).code = 0 ∧ (flS o).dsk = flushD o.dsk ∧ rightD o.dsk = true) := by
  unfold flS
  by_cases h0 : o.code = 0
  · rw [if_pos h0]
    unfold flO
    by_cases h1 : readyE o.dsk o.left ≠ 0
    · rw [if_pos h1]; exact .inl ⟨h1, rfl⟩
    · rw [if_neg h1]
      exact .inr ⟨h0, rfl, rfl, (ready_zero h1).2⟩
  · rw [if_neg h0]; exact .inl ⟨h0, rfl⟩
theorem Ph.put {S : List ByteArray} {A : Nat → ByteArray → Prop} {d : Dsk} (h : Ph S A d) (s : Int) (b : ByteArray) (hs : 0 ≤ s ∧ s < d.secs.length) (hb : (trimS b).size ≤ 512) (ha : A s.toNat (trimS b)) : Ph S A (writeD d s b) := by
  refine ⟨h.secs, write_right d s b h.right hs hb, fun x hx => ?_⟩
  rcases List.mem_append.1 hx with hx | hx
  · exact h.pend x hx
  · rw [List.mem_singleton.1 hx]; exact ha
theorem Ph.wr {S : List ByteArray} {A : Nat → ByteArray → Prop} {o : Outc} (h : Ph S A o.dsk) (x : Wrt) (ha : A x.sector.toNat (trimS x.bytes)) : Ph S A (wrS o x).dsk := by
  rcases wr_cases o x with ⟨_, e⟩ | ⟨_, _, e, hs, hb, _⟩
  · rw [e]; exact h
  · rw [e]; exact h.put _ _ hs hb ha
theorem Ph.fold {S : List ByteArray} {A : Nat → ByteArray → Prop} : ∀ (l : List Wrt) {o : Outc}, Ph S A o.dsk → (∀ x ∈ l, A x.sector.toNat (trimS x.bytes)) → Ph S A (l.foldl wrS o).dsk
  | [], _, h, _ => h
  | x :: l, o, h, hx => Ph.fold l (h.wr x (hx x (List.mem_cons_self ..))) (fun y hy => hx y (List.mem_cons_of_mem _ hy))
theorem Ph.imp {S : List ByteArray} {A A' : Nat → ByteArray → Prop} {d : Dsk} (h : Ph S A d) (hi : ∀ k b, A k b → A' k b) : Ph S A' d := ⟨h.secs, h.right, fun x hx => hi _ _ (h.pend x hx)⟩
theorem ph_none {d : Dsk} (hr : rightD d = true) (hp : d.pend = []) (A : Nat → ByteArray → Prop) : Ph d.secs A d := ⟨rfl, hr, fun x hx => by rw [hp] at hx; cases hx⟩
theorem fold_cases : ∀ (l : List Wrt) (o : Outc), (l.foldl wrS o).code = 0 → o.code = 0 ∧ (l.foldl wrS o).dsk = wrD o.dsk l
  | [], o, h => ⟨h, rfl⟩
  | x :: l, o, h => by
    obtain ⟨h1, h2⟩ := fold_cases l (wrS o x) h
    rcases wr_cases o x with ⟨e, _⟩ | ⟨e0, _, e, _⟩
    · exact absurd h1 e
    · refine ⟨e0, ?_⟩
      show (l.foldl wrS (wrS o x)).dsk = wrD (writeD o.dsk x.sector x.bytes) l
      rw [h2, e]
theorem keep_all (n i : Nat) (h : i < n) : (List.replicate n true).getD i false = true := by
  simp [List.getD, h]
theorem flush_at {d : Dsk} (h : rightD d = true) (k : Nat) : sec (flushD d).secs k = tells d k := by
  unfold flushD
  rw [crash_eq d _ h]
  exact crashL_all d _ h k _ (Nat.le_refl _) (fun i hi => keep_all _ _ hi)
theorem flush_len {d : Dsk} (h : rightD d = true) : (flushD d).secs.length = d.secs.length := crash_len d _ h
theorem flush_pend {d : Dsk} (h : rightD d = true) : (flushD d).pend = [] := crash_pend d _ h
theorem flush_right {d : Dsk} (h : rightD d = true) : rightD (flushD d) = true := crash_right d _ h
theorem wrD_no : ∀ (l : List Wrt) (d : Dsk) (k : Nat), (∀ x ∈ l, x.sector ≠ k) → tells (wrD d l) k = tells d k
  | [], d, k, _ => rfl
  | x :: l, d, k, h => by
    show tells (wrD (writeD d x.sector x.bytes) l) k = _
    rw [wrD_no l _ k (fun y hy => h y (List.mem_cons_of_mem _ hy)), write_tells, if_neg (h x (List.mem_cons_self ..))]
theorem wrD_at : ∀ (l : List Wrt) (d : Dsk) (k : Nat), (l.map Wrt.sector).Nodup → ∀ x ∈ l, x.sector = k → tells (wrD d l) k = trimS x.bytes
  | y :: l, d, k, hn, x, hx, e => by
    rw [List.map_cons, List.nodup_cons] at hn
    show tells (wrD (writeD d y.sector y.bytes) l) k = _
    rcases List.mem_cons.1 hx with rfl | hx
    · rw [wrD_no l _ k (fun z hz e2 => hn.1 (by rw [e, ← e2]; exact List.mem_map_of_mem hz)), write_tells, if_pos e]
    · exact wrD_at l _ k hn.2 x hx e
theorem layS_trim (l : List UInt8) : trimS (layS l) = layS l := trimS_twice _
theorem same_dsk {d : Dsk} (hp : d.pend = []) : d = ⟨d.secs, []⟩ := by cases d; subst hp; rfl
end Go.Proofs.YthnmnnlbglpjaaaGreatDoor
