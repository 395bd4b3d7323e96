/- The transactions that stand on a log's disk, one behind the other; a log whose disk tells it; plain. -/
import Derived.Test.YthnmnnlbglpjaaaGreatDoorWo3
import Derived.Test.YthnmnnlbglpjaaaGreatDoorPkF
import Derived.Test.YthnmnnlbglpjaaaGreatDoorPk4
namespace Go.Proofs.YthnmnnlbglpjaaaGreatDoor
open Go.RowKit
set_option linter.unusedVariables false

def sec (S : List ByteArray) (k : Nat) : ByteArray := S.getD k ⟨#[]⟩
def bareL (E : Int) (S : List ByteArray) (q u : Int) (D : List Wrt) : Lg := ⟨S, [], 0, E, q, u, D⟩
def tgtAt (S : List ByteArray) (q : Int) : List Int := (headV (sec S (1 + q.toNat))).tgt
def imgs (S : List ByteArray) (q u : Int) : List Wrt := imgW (bareL 0 S q u []) (tgtAt S q)
theorem imgs_len (S : List ByteArray) (q u : Int) : (imgs S q u).length = (tgtAt S q).length := imgW_len _ _
/-- so many transactions of an epoch stand, one behind the other, with so many images, and so much to be done -/
inductive Chain (E : Int) (S : List ByteArray) : Int → Int → List Wrt → Prop
  | zero : Chain E S 0 0 []
  | step {q u : Int} {D : List Wrt} (h : Chain E S q u D) (hs : StandP (bareL E S q u D)) : Chain E S (q + 1) (u + (imgs S q u).length) ((imgs S q u).foldl withT D)
theorem Chain.nums {E : Int} {S : List ByteArray} {q u : Int} {D : List Wrt} (h : Chain E S q u D) : 0 ≤ q ∧ 0 ≤ u := by
  induction h with
  | zero => exact ⟨by omega, by omega⟩
  | step h hs ih => exact ⟨by omega, by omega⟩
theorem chain_go {E : Int} {d : Dsk} {q u : Int} {D : List Wrt} (left : Int) (h : Chain E d.secs q u D) (h6 : q ≤ 6) : openF 6 (open0 d left E) = openF (6 - q.toNat) ⟨d.secs, d.pend, left, E, q, u, D⟩ := by
  induction h with
  | zero => rfl
  | @step q u D h hs ih =>
    have hn := h.nums
    rw [ih (by omega)]
    obtain ⟨k, rfl⟩ : ∃ k : Nat, q = k := ⟨q.toNat, by omega⟩
    rw [show 6 - ((k : Int)).toNat = (6 - ((k : Int) + 1).toNat) + 1 from by omega]
    show (if StandP ⟨d.secs, d.pend, left, E, k, u, D⟩ then _ else _) = _
    rw [if_pos (show StandP ⟨d.secs, d.pend, left, E, k, u, D⟩ from hs)]
    rfl
theorem chain_opens {E : Int} {d : Dsk} {q u : Int} {D : List Wrt} (left : Int) (hE : superV (supS0 d) = E) (h : Chain E d.secs q u D) (h6 : q ≤ 6) (hno : q = 6 ∨ ¬ StandP (bareL E d.secs q u D)) : openLg d left = ⟨d.secs, d.pend, left, E, q, u, D⟩ := by
  unfold openLg
  rw [hE, chain_go left h h6]
  rcases hno with rfl | hno
  · rfl
  · exact open_no (show ¬ StandP ⟨d.secs, d.pend, left, E, q, u, D⟩ from hno) _
theorem Chain.mono {E : Int} {S S' : List ByteArray} {q u : Int} {D : List Wrt} (h : Chain E S q u D) (hl : S'.length = S.length) : (∀ j : Nat, j < q.toNat → sec S' (1 + j) = sec S (1 + j)) → (∀ j : Nat, j < q.toNat → sec S' (7 + j) = sec S (7 + j)) → (∀ i : Nat, i < u.toNat → sec S' (13 + i) = sec S (13 + i)) → Chain E S' q u D := by
  induction h with
  | zero => exact fun _ _ _ => .zero
  | @step q u D h hs ih =>
    intro h1 h7 h13
    have hn := h.nums
    have ih := ih (fun j hj => h1 j (by omega)) (fun j hj => h7 j (by omega)) (fun i hi => h13 i (by omega))
    have a1 : headS (bareL E S' q u D) = headS (bareL E S q u D) := h1 q.toNat (by omega)
    have a2 : comS5 (bareL E S' q u D) = comS5 (bareL E S q u D) := h7 q.toNat (by omega)
    have a3 : (bareL E S' q u D).secs.length = (bareL E S q u D).secs.length := hl
    have t1 : tgtAt S' q = tgtAt S q := by unfold tgtAt; rw [show sec S' (1 + q.toNat) = sec S (1 + q.toNat) from h1 q.toNat (by omega)]
    have e : imgs S' q u = imgs S q u := by
      have hln := imgs_len S q u
      unfold imgs imgW at hln ⊢
      rw [t1]
      refine List.map_congr_left (fun i hi => ?_)
      have hi := List.mem_range.1 hi
      have : (imgs S q u).length = (tgtAt S q).length := imgs_len S q u
      have h := h13 (u.toNat + i) (by omega)
      unfold sec at h
      show (⟨_, S'.getD (13 + u.toNat + i) ⟨#[]⟩⟩ : Wrt) = ⟨_, S.getD (13 + u.toNat + i) ⟨#[]⟩⟩
      rw [show 13 + u.toNat + i = 13 + (u.toNat + i) from by omega, h]
    have hs' : StandP (bareL E S' q u D) := by
      unfold StandP at hs ⊢
      rw [a1, a2, a3]
      exact hs
    rw [← e]
    exact .step ih hs'
/-- what commits there may be: of earlier epochs, or of this one and of these transactions -/
def Coms (E : Int) (S : List ByteArray) (q : Int) : Prop := ∀ j : Nat, j < 6 → commitE (sec S (7 + j)) = 0 → commitV (sec S (7 + j)) < E ∨ (commitV (sec S (7 + j)) = E ∧ (j : Int) < q)
theorem Coms.no {E : Int} {S : List ByteArray} {q u : Int} {D : List Wrt} (h : Coms E S q) (h0 : 0 ≤ q) (h6 : q < 6) : ¬ StandP (bareL E S q u D) := by
  intro hs
  obtain ⟨_, _, _, _, _, k6, k7, _⟩ := hs
  have := h q.toNat (by omega) k6
  have k7' : commitV (sec S (7 + q.toNat)) = E := k7
  omega
theorem Coms.next {E : Int} {S : List ByteArray} {q : Int} (h : Coms E S q) : Coms (E + 1) S 0 := fun j hj hc => by
  have := h j hj hc
  omega
theorem Coms.mono {E : Int} {S S' : List ByteArray} {q : Int} (h : Coms E S q) (h7 : ∀ j : Nat, j < 6 → sec S' (7 + j) = sec S (7 + j)) : Coms E S' q := fun j hj => by
  rw [h7 j hj]; exact h j hj
/-- a log that its disk tells -/
structure Sound (l : Lg) : Prop where
  right : rightL l = true
  pend : l.pend = []
  supE : superE (sec l.secs 0) = 0
  supV : superV (sec l.secs 0) = l.epoch
  chain : Chain l.epoch l.secs l.seq l.used l.dirty
  coms : Coms l.epoch l.secs l.seq
def Lg.pow (l : Lg) (L : Int) : Lg := ⟨l.secs, l.pend, L, l.epoch, l.seq, l.used, l.dirty⟩
theorem Sound.pow {l : Lg} (h : Sound l) (L : Int) : Sound (l.pow L) := ⟨h.right, h.pend, h.supE, h.supV, h.chain, h.coms⟩
theorem right_64 {l : Lg} (hr : rightL l = true) : 64 ≤ l.secs.length := by
  rw [rightL_eq] at hr
  simp only [Bool.and_eq_true, decide_eq_true_eq] at hr
  exact hr.1.1.2
theorem sound_open {l : Lg} (h : Sound l) (left : Int) : opL l.dsk left = ckL (l.pow left) ∧ opE l.dsk left = ckE (l.pow left) := by
  have h64 := right_64 h.right
  obtain ⟨d1, d2, d3⟩ := right_dirty h.right
  obtain ⟨n1, n2, n3⟩ := right_nums h.right
  have hB : openB l.dsk = true := by
    unfold openB
    rw [d3, Bool.true_and]
    refine decide_eq_true ⟨h64, ?_⟩
    show l.pend.length = 0
    rw [h.pend]; rfl
  have hS : superE (supS0 l.dsk) = 0 := h.supE
  have hO : openLg l.dsk left = l.pow left := chain_opens left h.supV h.chain n2.2 (by
    by_cases h6 : l.seq = 6
    · exact .inl h6
    · exact .inr (h.coms.no n2.1 (by omega)))
  unfold opL opE
  rw [if_pos hB, if_pos hB, if_pos hS, if_pos hS, hO]
  exact ⟨rfl, rfl⟩
/-- the same log over other sectors, which are the same where it looks -/
theorem Sound.move {l : Lg} (h : Sound l) {S : List ByteArray} (hr : rightD ⟨S, []⟩ = true) (hl : S.length = l.secs.length) (h0 : sec S 0 = sec l.secs 0) (h1 : ∀ j : Nat, (j : Int) < l.seq → sec S (1 + j) = sec l.secs (1 + j))
    (h7 : ∀ j : Nat, j < 6 → sec S (7 + j) = sec l.secs (7 + j)) (h13 : ∀ i : Nat, (i : Int) < l.used → sec S (13 + i) = sec l.secs (13 + i)) : Sound ⟨S, [], l.left, l.epoch, l.seq, l.used, l.dirty⟩ := by
  obtain ⟨n1, n2, n3⟩ := right_nums h.right
  refine ⟨?_, rfl, ?_, ?_, ?_, ?_⟩
  · have hr0 := h.right
    rw [rightL_eq] at hr0 ⊢
    rw [Bool.and_eq_true, Bool.and_eq_true, Bool.and_eq_true] at hr0
    obtain ⟨⟨⟨r1, r2⟩, r3⟩, r4⟩ := hr0
    rw [Bool.and_eq_true, Bool.and_eq_true, Bool.and_eq_true]
    refine ⟨⟨⟨hr, ?_⟩, r3⟩, ?_⟩
    · show decide (64 ≤ S.length) = true
      rw [hl]; exact r2
    · show dirtyB S.length (-1) l.dirty = true
      rw [hl]; exact r4
  · show superE (sec S 0) = 0
    rw [h0]; exact h.supE
  · show superV (sec S 0) = l.epoch
    rw [h0]; exact h.supV
  · exact h.chain.mono hl (fun j hj => h1 j (by omega)) (fun j hj => h7 j (by omega)) (fun i hi => h13 i (by omega))
  · exact h.coms.mono h7
/-- what a log of so many sectors tells -/
def HasV (l : Lg) (N : Nat) (T : Nat → ByteArray) : Prop := l.secs.length = N ∧ ∀ n : Nat, 53 ≤ n → n < N → tellsW l n = T n
theorem tells_bare {l : Lg} (h : l.pend = []) (n : Nat) : tellsW l n = match l.dirty.find? (isAt n) with
    | some x => x.bytes
    | none => sec l.secs n := by
  unfold tellsW
  rw [tells_same l.dsk _ h, Int.toNat_natCast]
  rfl
theorem isAt_iff {n : Int} {x : Wrt} : isAt n x = true ↔ x.sector = n := by unfold isAt; exact beq_iff_eq
theorem find_mem {n : Int} {l : List Wrt} {x : Wrt} (h : l.find? (isAt n) = some x) : x ∈ l ∧ x.sector = n :=
  ⟨List.mem_of_find?_eq_some h, isAt_iff.1 (List.find?_some h)⟩
theorem find_none {n : Int} {l : List Wrt} (h : l.find? (isAt n) = none) : ∀ x ∈ l, x.sector ≠ n := fun x hx e => by
  rw [List.find?_eq_none] at h
  exact h x hx (isAt_iff.2 e)
theorem rises_nodup {N : Nat} : ∀ {p : Int} {l : List Wrt}, dirtyB N p l = true → (l.map Wrt.sector).Nodup
  | p, [], _ => by simp
  | p, x :: l, h => by
    have h0 := h
    unfold dirtyB at h
    simp only [Bool.and_eq_true, decide_eq_true_eq] at h
    rw [List.map_cons, List.nodup_cons]
    refine ⟨fun hm => ?_, rises_nodup h.2⟩
    obtain ⟨y, hy, e⟩ := List.mem_map.1 hm
    obtain ⟨j, hj, rfl⟩ := List.mem_iff_getElem.1 hy
    have := (dirty_from h.2 j hj).2.1
    rw [show l.getD j wrtZ = l[j] from by simp [List.getD, hj]] at this
    omega
theorem find_nodup {l : List Wrt} (hn : (l.map Wrt.sector).Nodup) {x : Wrt} (hx : x ∈ l) : l.find? (isAt x.sector) = some x := by
  induction l with
  | nil => cases hx
  | cons y l ih =>
    rw [List.map_cons, List.nodup_cons] at hn
    rcases List.mem_cons.1 hx with rfl | hx
    · exact List.find?_cons_of_pos (isAt_iff.2 rfl)
    · rw [List.find?_cons_of_neg (fun e => hn.1 (by rw [isAt_iff.1 e]; exact List.mem_map_of_mem hx)), ih hn.2 hx]
end Go.Proofs.YthnmnnlbglpjaaaGreatDoor
